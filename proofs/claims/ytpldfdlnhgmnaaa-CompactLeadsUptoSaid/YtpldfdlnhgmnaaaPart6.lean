import Derived.Deep.RegionWith
import Derived.BigRegion
import Derived.StillTailTactics
import Derived.Deep.CutRange
import Derived.Deep.Cut
import Derived.Deep.CutBlock
import Derived.Deep.RegionHeld3
import Derived.Deep.RegionLaw
import Derived.Deep.AppendLies
import Derived.BigQuiet
import Derived.Test.YtpldfdlnhgmnaaaPart5
/-
  compact: behind.
-/
namespace Go.Proofs.Ytpldfdlnhgmnaaa
open Go.RowKit
set_option linter.unusedSimpArgs false
set_option linter.unusedVariables false
namespace Cp
open Op (bytesLess)
open Mf (Tbl Tbs TAt TblIn tcs tblV tC)
set_option maxRecDepth 100000 in
set_option maxHeartbeats 4000000 in
theorem behind_any (v : Value) (L : List Tbl) (key : List UInt8) (w : World) (hV : Tbs w.heap.size w v L) (hcap : ∀ a n c, v = .slice a n c → n ≤ c ∧ c ≤ maxLen) (hL : L.length ≤ 8388608) (h0 : 0 < L.length) :
    Calls Try.prog 76 #[v, .string (Cd.bs key)] w fun e w' => (∃ ad c, e = .returned (.slice (some ad) 1 c) ∧ 1 ≤ c ∧ c ≤ maxLen ∧ ∀ B0 W0, Tbs B0 W0 v L → Tbs B0 W0 (.slice (some ad) 1 c) ((L.drop (idxP L key)).take 1)) ∧ Below w.heap.size w w' := by
  have hidx := idxP_lt key h0
  obtain ⟨a, cap, fb, fo, rfl, ha, hc⟩ := hV
  obtain ⟨hcp, hcm⟩ := hcap _ _ _ rfl
  obtain ⟨rfl, hfb⟩ := ha h0
  have HV := Lib.hid (show Tbs w.heap.size w (.slice (some ⟨fb, fo, none⟩) L.length cap) L from ⟨_, cap, fb, fo, rfl, ha, hc⟩)
  have hLd : ((L.drop (idxP L key)).take 1).length = 1 := by rw [List.length_take, List.length_drop]; omega
  obtain ⟨q, hq⟩ : ∃ q, idxP L key = q := ⟨_, rfl⟩
  have HRES := Lib.hid (show ∀ B0 W0, Tbs B0 W0 (.slice (some ⟨fb, fo, none⟩) L.length cap) L → Tbs B0 W0 (.slice (some ⟨fb, fo + q * 6, none⟩) 1 (cap - q)) ((L.drop (idxP L key)).take 1) from by
    intro B0 W0 hT
    obtain ⟨a', cap', b', off', h1, ha', hc'⟩ := hT
    injection h1 with e1 _ e3
    obtain ⟨h2, hfb'⟩ := ha' h0
    rw [← e1] at h2
    injection h2 with h2
    injection h2 with h3 h4 _
    subst h3 h4
    refine ⟨_, cap - q, fb, fo + q * 6, by rw [hLd], fun _ => ⟨rfl, hfb'⟩, fun j hj => ?_⟩
    obtain rfl : j = 0 := by omega
    have h1 := hc' q (by omega)
    have h2 : ((L.drop (idxP L key)).take 1)[0] = L[q]'(by omega) := by simp [hq]
    rw [h2, Nat.zero_mul, Nat.add_zero]
    exact h1)
  obtain ⟨A, hA⟩ : ∃ A : Int, (if (L.takeWhile fun x => !bytesLess key x.hi).length = L.length then -1 else ((L.takeWhile fun x => !bytesLess key x.hi).length : Int)) = A := ⟨_, rfl⟩
  have hmax : max A 0 = (q : Int) := by
    rw [← hA, ← hq]
    unfold idxP
    split
    · rfl
    · omega
  have hm2 : (if 0 > A then 0 else A) = (q : Int) := by rw [← hmax]; omega
  obtain ⟨wA, hwA⟩ : ∃ wA, w.alloc (.cells #[.string (Cd.bs key)] 9) = wA := ⟨_, rfl⟩
  have bA : Below w.heap.size w wA := by rw [← hwA]; exact (Below.refl _ _).alloc (Nat.le_refl _) _
  have kA : wA.cell? ⟨w.heap.size, 0, none⟩ = some (.string (Cd.bs key)) := by rw [← hwA]; exact (Ob.Obj.new w 9 [.string (Cd.bs key)]).cell 0
  have hzA : w.heap.size < wA.heap.size := by rw [← hwA]; simp
  have HIX := Lib.hid (indexFunc_any _ L w.heap.size key wA (HV.out.grow bA bA.size) kA hzA hL)
  rw [hA] at HIX
  have hq1 : q < L.length := by omega
  have hi1 : (0 : Int) ≤ (q : Int) ∧ (q : Int) ≤ (q : Int) + 1 ∧ (q : Int) + 1 ≤ (cap : Int) := by omega
  have hw1 : IntKind.i64.wrap ((q : Int) + 1) = (q : Int) + 1 := by rw [IntKind.wrap_i64]; omega
  have hmf : ∀ (fn : Fn) (first cap : Array Value) (w : World), (Instr.makeFunc fn first cap).run Try.prog w = .ok (.func fn first cap) w := fun _ _ _ _ => rfl
  have HMX := Lib.hid hmax
  clear hA hq hc ha hcap hLd hmax
  go_enter Try.func76, Try.ntmps76
  go_wp2_with (go_at_call 95; (with_reducible refine HIX.out.mono ?_); rintro e w2 ⟨rfl, hb2⟩)
  have e2 : (q : Int).toNat = q := by omega
  have e1 : ((q : Int) + 1).toNat - q = 1 := by omega
  rw [HMX.out, e2, e1]
  go_ret
  exact ⟨⟨⟨fb, fo + q * 6, none⟩, cap - q, rfl, by omega, by omega, HRES.out⟩, bA.trans (hb2.mono bA.size)⟩
end Cp
end Go.Proofs.Ytpldfdlnhgmnaaa

/-
  compact: spanOf.
-/
namespace Go.Proofs.Ytpldfdlnhgmnaaa
open Go.RowKit
set_option linter.unusedSimpArgs false
set_option linter.unusedVariables false
namespace Cp
open Op (bytesLess)
open Mf (Tbl Lv lvV LvIn Tbs TAt TblIn tcs tblV tC tcs_snoc cell_six_new)

set_option maxRecDepth 100000 in
set_option maxHeartbeats 4000000 in
theorem spanOf_any (v : Value) (L : List Tbl) (w : World) (hV : Tbs w.heap.size w v L) (hcap : ∀ a n c, v = .slice a n c → n ≤ c ∧ c ≤ maxLen) (hL : L.length ≤ 8388608) (h0 : 0 < L.length) :
    Calls Try.prog 77 #[v] w fun e w' => e = .returned (.agg #[.string (Cd.bs (spanP L).1), .string (Cd.bs (spanP L).2)]) ∧ Below w.heap.size w w' := by
  obtain ⟨a, cap, fb, fo, rfl, ha, hc⟩ := hV
  obtain ⟨hcp, hcm⟩ := hcap _ _ _ rfl
  obtain ⟨rfl, hfb⟩ := ha h0
  have HC := Lib.hid hc
  obtain ⟨e0, e1, e2, e3, e4, e5⟩ := hc 0 h0
  have hz0 : (0 : Int) ≤ 0 ∧ (0 : Int) < (L.length : Int) := by omega
  have HS1 := Lib.hid (show spanP (L.take 1) = (L[0].lo, L[0].hi) by rw [List.take_one, List.head?_eq_getElem?, List.getElem?_eq_getElem h0]; rfl)
  simp only [Nat.zero_mul, Nat.add_zero] at e0 e1 e2 e3 e4 e5
  generalize L[0] = x at *
  clear hc ha e0 e1 e2 e3
  obtain ⟨wA, hA⟩ : ∃ wA, w.alloc (.cells #[.string ⟨#[]⟩, .string ⟨#[]⟩] 130) = wA := ⟨_, rfl⟩
  have bA : Below w.heap.size w wA := by rw [← hA]; exact (Below.refl _ _).alloc (Nat.le_refl _) _
  have xA : Ob.Obj wA w.heap.size 130 [.string ⟨#[]⟩, .string ⟨#[]⟩] := by rw [← hA]; exact Ob.Obj.new w _ [.string ⟨#[]⟩, .string ⟨#[]⟩]
  have e4 := (bA.cell (p := ⟨fb, fo + 4, none⟩) hfb).trans e4
  have e5 := (bA.cell (p := ⟨fb, fo + 5, none⟩) hfb).trans e5
  go_enter Try.func77, Try.ntmps77
  go_upto_region 1 with fail
  try rw [hA]
  clear hA
  go_cut [3] from 6 to 14 (fun p wx => p = .pointer (some ⟨wA.heap.size, 0, none⟩) ∧ Ob.Obj wx wA.heap.size 130 [.string (Cd.bs x.lo), .string (Cd.bs x.hi)] ∧ Below wA.heap.size wA wx)
  case first =>
    have hfA : fb < wA.heap.size := Nat.lt_of_lt_of_le hfb bA.size
    go_big_region
    all_goals (try go_wp2_with fail)
    all_goals go_meet
    all_goals exact ⟨rfl, (Ob.Obj.new wA _ [.string (Cd.bs x.lo), .string (Cd.bs x.hi)]).drew, ((Below.refl _ _).alloc (Nat.le_refl _) _).drew⟩
  case rest =>
    obtain ⟨rfl, hbx, hB⟩ := hcut
    have hbz := hbx.lt
    have hB0 := bA.trans (hB.mono bA.size)
    have xB := xA.below hB
    have hi1 : (0 : Int) ≤ 1 ∧ (1 : Int) ≤ (L.length : Int) ∧ (L.length : Int) ≤ (cap : Int) := by omega
    have hml : maxLen = 9223372036854775807 := rfl
    have hne := xA.lt
    clear e4 e5 hcap xA
    by_cases hc1 : cap = 1
    · subst hc1
      have hl1 : L.length = 1 := by omega
      have HSL := Lib.hid (show spanP L = (x.lo, x.hi) by rw [← HS1.out, List.take_of_length_le (by omega)])
      have b0 := hbx.cell 0
      have b1 := hbx.cell 1
      simp at b0 b1
      have z0 := xB.cell 0
      have z1 := xB.cell 1
      have f0 := xB.frozen 0
      have f1 := xB.frozen 1
      simp at z0 z1
      have xB2 := (xB.set 0 (.string (Cd.bs x.lo))).set 1 (.string (Cd.bs x.hi))
      have hBF := Lib.hid ((hB0.setCell (p := ⟨w.heap.size, 0, none⟩) (Nat.le_refl _) (.string (Cd.bs x.lo))).setCell (p := ⟨w.heap.size, 1, none⟩) (Nat.le_refl _) (.string (Cd.bs x.hi)))
      have c0 := xB2.cell 0
      have c1 := xB2.cell 1
      simp at c0 c1
      clear hl1 xB2
      go_wp2_with fail
      go_loopw [18] (fun i wr => i = .int .i64 0 ∧ wc = wr) (fun i _ => 0)
      case atStart => exact ⟨rfl, rfl⟩
      case round =>
        obtain ⟨rfl, rfl⟩ := hrel
        go_wp2_with fail
        exact bodyPost_ret (v := .agg #[.string (Cd.bs x.lo), .string (Cd.bs x.hi)]) (by simp [results, Try.results77, go_sem, c0, c1]) rfl ⟨by rw [HSL.out], hBF.out⟩
    · go_wp2_with fail
      generalize hm : L.length - 1 = m
      have HM := Lib.hid hm
      have hm1 : m + 1 ≤ L.length := by omega
      have hm2 : L.length ≤ m + 1 := by omega
      clear hm hi1
      go_loopw [18] (fun i wr => ∃ q : Nat, q ≤ m ∧ i = .int .i64 (q : Int) ∧ Ob.Obj wr wA.heap.size 130 [.string (Cd.bs (spanP (L.take (q + 1))).1), .string (Cd.bs (spanP (L.take (q + 1))).2)] ∧ Ob.Obj wr w.heap.size 130 [.string ⟨#[]⟩, .string ⟨#[]⟩] ∧ Below w.heap.size w wr) (fun i _ => m - (intOf i).toNat)
      case atStart => exact ⟨0, Nat.zero_le _, rfl, by rw [HS1.out]; exact hbx, xB, hB0⟩
      case round =>
        clear hbx xB hB0 hB hbz
        obtain ⟨q, hq, rfl, hbx, xB, hB0⟩ := hrel
        obtain ⟨wo, rfl⟩ : ∃ wo : World, wo = wr := ⟨_, rfl⟩
        by_cases hlt : q < m
        · have hq1 : q + 1 < L.length := by omega
          have hT := (HC.out (q + 1) hq1).below hB0 hfb
          rw [show fo + (q + 1) * 6 = fo + 6 + q * 6 by omega] at hT
          obtain ⟨e0, e1, e2, e3, e4, e5⟩ := hT
          have hi3 : (0 : Int) ≤ (q : Int) ∧ (q : Int) < (m : Int) := by omega
          have HN := Lib.hid (show spanP (L.take (q + 1 + 1)) = (minB (spanP (L.take (q + 1))).1 L[q + 1].lo, maxB (spanP (L.take (q + 1))).2 L[q + 1].hi) by rw [List.take_succ_eq_append_getElem hq1, spanP_snoc _ (by rw [List.length_take]; omega)])
          generalize spanP (L.take (q + 1)) = P at *
          obtain ⟨A, B⟩ := P
          generalize L[q + 1] = y at *
          obtain ⟨yn, yl, ys, yc, ylo, yhi⟩ := y
          simp only at e0 e1 e2 e3 e4 e5 HN hbx
          have hmn := fun W ts t => run_minB (P := Try.prog) W ts t A ylo
          have hmx := fun W ts t => run_maxB (P := Try.prog) W ts t B yhi
          obtain ⟨wT, hwT⟩ : ∃ wT, wo.alloc (.cells #[.int .u64 yn, .int .i64 yl, .int .i64 ys, .int .i64 yc, .string (Cd.bs ylo), .string (Cd.bs yhi)] 38) = wT := ⟨_, rfl⟩
          obtain ⟨tb, htb⟩ : ∃ tb, wo.heap.size = tb := ⟨_, rfl⟩
          have tT : Ob.Obj wT tb 38 [.int .u64 yn, .int .i64 yl, .int .i64 ys, .int .i64 yc, .string (Cd.bs ylo), .string (Cd.bs yhi)] := by rw [← hwT, ← htb]; exact Ob.Obj.new wo _ [.int .u64 yn, .int .i64 yl, .int .i64 ys, .int .i64 yc, .string (Cd.bs ylo), .string (Cd.bs yhi)]
          have hjT : Below wo.heap.size wo wT := by rw [← hwT]; exact (Below.refl _ _).alloc (Nat.le_refl _) _
          have bxT := hbx.below hjT
          have xT := xB.below hjT
          have hBT := hB0.trans (hjT.mono hB0.size)
          have b0 := bxT.cell 0
          have b1 := bxT.cell 1
          have f0 := bxT.frozen 0
          have f1 := bxT.frozen 1
          have t4 := tT.cell 4
          have t5 := tT.cell 5
          simp at b0 b1 t4 t5
          have tTz := tT.lt
          have HBX := Lib.hid bxT
          have HXT := Lib.hid xT
          have HBT := Lib.hid hBT
          clear bxT xT hBT hbx xB hB0 tT
          clear hjT
          go_upto_region 5 with fail
          try rw [hwT]
          try rw [htb]
          clear e0 e1 e2 e3 e4 e5
          have hzA := HBX.out.lt
          have hzT := tTz
          go_big_region
          all_goals (try go_wp2_with fail)
          all_goals go_roundw
          all_goals (try (case measure => simp [intOf]; omega))
          all_goals refine ⟨q + 1, by omega, by go_num, by rw [HN.out]; first | exact (HBX.out.set 0 (.string (Cd.bs (minB A ylo)))).set 1 (.string (Cd.bs (maxB B yhi))) | exact (HBX.out.set 1 (.string (Cd.bs (maxB B yhi)))).set 0 (.string (Cd.bs (minB A ylo))), ?_, ?_⟩
          all_goals (first | exact (HXT.out.other (p := ⟨wA.heap.size, 0, none⟩) (by simp only; omega) _).other (p := ⟨wA.heap.size, 1, none⟩) (by simp only; omega) _ | exact (HXT.out.other (p := ⟨wA.heap.size, 1, none⟩) (by simp only; omega) _).other (p := ⟨wA.heap.size, 0, none⟩) (by simp only; omega) _ | exact (HBT.out.drew.setCell (p := ⟨wA.heap.size, 0, none⟩) (by simp only; omega) _).setCell (p := ⟨wA.heap.size, 1, none⟩) (by simp only; omega) _ | exact (HBT.out.drew.setCell (p := ⟨wA.heap.size, 1, none⟩) (by simp only; omega) _).setCell (p := ⟨wA.heap.size, 0, none⟩) (by simp only; omega) _)
        · obtain rfl : q = m := by omega
          have hi3 : ¬ (q : Int) < (q : Int) := by omega
          have HSL := Lib.hid (show spanP (L.take (q + 1)) = spanP L by rw [List.take_of_length_le (by omega)])
          rw [HSL.out] at hbx
          generalize hP : spanP L = P at *
          obtain ⟨A, B⟩ := P
          have HP := Lib.hid hP
          clear hP
          simp only at hbx
          have b0 := hbx.cell 0
          have b1 := hbx.cell 1
          simp at b0 b1
          have z0 := xB.cell 0
          have z1 := xB.cell 1
          have f0 := xB.frozen 0
          have f1 := xB.frozen 1
          simp at z0 z1
          have xB2 := (xB.set 0 (.string (Cd.bs A))).set 1 (.string (Cd.bs B))
          have hBF := Lib.hid ((hB0.setCell (p := ⟨w.heap.size, 0, none⟩) (Nat.le_refl _) (.string (Cd.bs A))).setCell (p := ⟨w.heap.size, 1, none⟩) (Nat.le_refl _) (.string (Cd.bs B)))
          have c0 := xB2.cell 0
          have c1 := xB2.cell 1
          simp at c0 c1
          clear xB2
          go_wp2_with fail
          exact bodyPost_ret (v := .agg #[.string (Cd.bs A), .string (Cd.bs B)]) (by simp [results, Try.results77, go_sem, c0, c1]) rfl ⟨by rw [HP.out], hBF.out⟩
end Cp
end Go.Proofs.Ytpldfdlnhgmnaaa

/-
  The document's answer of chapter 11: are two jobs alike? Two that are the same, wherever they lie.
-/
namespace Go.Proofs.Ytpldfdlnhgmnaaa
open Go.RowKit
set_option linter.unusedSimpArgs false
set_option linter.unusedVariables false
namespace Cp
open Mf (Tbl Tbs)
def jobV (j : Jb) (u v : Value) : Value := .agg #[.int .i64 j.lev, u, v, .bool j.bot]
set_option maxRecDepth 100000 in
set_option maxHeartbeats 4000000 in
theorem sameJob_eq (j : Jb) (u v u' v' : Value) (w : World) (hU : Tbs w.heap.size w u j.src) (hV : Tbs w.heap.size w v j.dst) (hU' : Tbs w.heap.size w u' j.src) (hV' : Tbs w.heap.size w v' j.dst) (h1 : j.src.length ≤ 4611686018427387904) (h2 : j.dst.length ≤ 4611686018427387904) :
    Calls Try.prog 24 #[jobV j u v, jobV j u' v'] w fun e w' => e = .returned (.bool true) ∧ Below w.heap.size w w' := by
  have HS := Lib.hid (fun W (h : Below w.heap.size w W) => Mf.sameTables_eq u u' j.src W (hU.grow h h.size) (hU'.grow h h.size) h1)
  have HT := Lib.hid (fun W (h : Below w.heap.size w W) => Mf.sameTables_eq v v' j.dst W (hV.grow h h.size) (hV'.grow h h.size) h2)
  obtain ⟨a1, c1, _, _, rfl, -⟩ := hU
  obtain ⟨a2, c2, _, _, rfl, -⟩ := hV
  obtain ⟨a3, c3, _, _, rfl, -⟩ := hU'
  obtain ⟨a4, c4, _, _, rfl, -⟩ := hV'
  obtain ⟨lev, src, dst, bot⟩ := j
  unfold jobV
  simp only at *
  generalize src.length = n at *
  generalize dst.length = m at *
  obtain ⟨wA, hA⟩ : ∃ wA, w.alloc (.cells #[.int .i64 lev, .slice a1 n c1, .slice a2 m c2, .bool bot] 56) = wA := ⟨_, rfl⟩
  have bA : Below w.heap.size w wA := by rw [← hA]; exact (Below.refl _ _).alloc (Nat.le_refl _) _
  have xA : Ob.Obj wA w.heap.size 56 [.int .i64 lev, .slice a1 n c1, .slice a2 m c2, .bool bot] := by rw [← hA]; exact Ob.Obj.new w _ [.int .i64 lev, .slice a1 n c1, .slice a2 m c2, .bool bot]
  obtain ⟨b2, hb2⟩ : ∃ b2, wA.heap.size = b2 := ⟨_, rfl⟩
  obtain ⟨wB, hB⟩ : ∃ wB, wA.alloc (.cells #[.int .i64 lev, .slice a3 n c3, .slice a4 m c4, .bool bot] 56) = wB := ⟨_, rfl⟩
  have bB : Below w.heap.size w wB := by rw [← hB]; exact bA.alloc bA.size _
  have xB : Ob.Obj wB w.heap.size 56 [.int .i64 lev, .slice a1 n c1, .slice a2 m c2, .bool bot] := by rw [← hB]; exact xA.alloc _
  have yB : Ob.Obj wB b2 56 [.int .i64 lev, .slice a3 n c3, .slice a4 m c4, .bool bot] := by rw [← hB, ← hb2]; exact Ob.Obj.new wA _ [.int .i64 lev, .slice a3 n c3, .slice a4 m c4, .bool bot]
  have p1 := xB.cell 1
  have q1 := yB.cell 1
  simp at p1 q1
  have tk1 := trivial
  clear bA xA
  go_enter Try.func24, Try.ntmps24
  go_wp2_with (first
    | (have _t := tk1; clear _t tk1; go_at_call 34; (with_reducible refine (HS.out _ bB).mono ?_); rintro e w2 ⟨rfl, hc2⟩; have B2 := bB.trans (hc2.mono bB.size); have x2 := xB.below hc2; have y2 := yB.below hc2; have p2 := x2.cell 2; have q2 := y2.cell 2; simp at p2 q2)
    | (go_at_call 34; (with_reducible refine (HT.out _ B2).mono ?_); rintro e w3 ⟨rfl, hc3⟩; have B3 := B2.trans (hc3.mono B2.size); have x3 := x2.below hc3; have y3 := y2.below hc3; have p0 := x3.cell 0; have q0 := y3.cell 0; have p3 := x3.cell 3; have q3 := y3.cell 3; simp at p0 q0 p3 q3))
  all_goals go_ret
  all_goals exact ⟨by simp, B3⟩
end Cp
end Go.Proofs.Ytpldfdlnhgmnaaa

/-
  Edits that came in, opened.
-/
namespace Go.Proofs.Ytpldfdlnhgmnaaa
open Go.RowKit
set_option linter.unusedVariables false
set_option linter.unusedSimpArgs false
namespace Mf
open Gn
theorem u64m {n : Int} (h : (Lit.int .u64 n).wf = true) : 0 ≤ n ∧ n ≤ 18446744073709551615 := by simpa [Lit.wf, IntKind.min, IntKind.max, IntKind.signed, IntKind.bits] using h
theorem i64m {n : Int} (h : (Lit.int .i64 n).wf = true) : -9223372036854775808 ≤ n ∧ n ≤ 9223372036854775807 := by simpa [Lit.wf, IntKind.min, IntKind.max, IntKind.signed, IntKind.bits] using h
theorem mem_sum10 {α : Type} (f : α → Nat) : ∀ (l : List α) (j : Nat) (h : j < l.length), f l[j] ≤ (l.map f).sum
  | x :: r, 0, _ => by simp
  | x :: r, j + 1, h => by
    have := mem_sum10 f r j (by simpa using h)
    simp; omega
theorem len_sum10 {α : Type} (f : α → Nat) (h1 : ∀ x, 1 ≤ f x) : ∀ l : List α, l.length ≤ (l.map f).sum
  | [] => by simp
  | x :: r => by
    have := len_sum10 f h1 r
    have := h1 x
    simp; omega
abbrev tabT : Ty := .struct (.cons (.int .u64) (.cons (.int .i64) (.cons (.int .i64) (.cons (.int .i64) (.cons .str (.cons .str .nil))))))
abbrev editT : Ty := .struct (.cons (.int .u64) (.cons (.int .u64) (.cons (.int .u64) (.cons (.slice tabT) (.cons (.slice (.int .u64)) .nil)))))
abbrev TD : Type := Int × Int × Int × Int × List UInt8 × List UInt8 × Unit
abbrev ED : Type := Int × Int × Int × List TD × List Int × Unit
def toT (x : TD) : Tbl := ⟨x.1, x.2.1, x.2.2.1, x.2.2.2.1, x.2.2.2.2.1, x.2.2.2.2.2.1⟩
def toE (x : ED) : Ed := ⟨x.1, x.2.1, x.2.2.1, x.2.2.2.1.map toT, x.2.2.2.2.1⟩
theorem rd_tab {B : Nat} {W : World} {cs : List Value} {x : TD} (h : RdC B W tabT cs x) : cs = tC (toT x) ∧ (0 ≤ x.1 ∧ x.1 ≤ 18446744073709551615) ∧ (-9223372036854775808 ≤ x.2.1 ∧ x.2.1 ≤ 9223372036854775807) ∧ (-9223372036854775808 ≤ x.2.2.1 ∧ x.2.2.1 ≤ 9223372036854775807) ∧ (-9223372036854775808 ≤ x.2.2.2.1 ∧ x.2.2.2.1 ≤ 9223372036854775807) := by
  obtain ⟨c1, d1, rfl, _, ⟨rfl, w1⟩, c2, d2, rfl, _, ⟨rfl, w2⟩, c3, d3, rfl, _, ⟨rfl, w3⟩, c4, d4, rfl, _, ⟨rfl, w4⟩, c5, d5, rfl, _, ⟨rfl, _⟩, c6, d6, rfl, _, ⟨rfl, _⟩, rfl⟩ := h
  exact ⟨rfl, u64m w1, i64m w2, i64m w3, i64m w4⟩
theorem rd_edit {B : Nat} {W : World} {cs : List Value} {x : ED} (h : RdC B W editT cs x) {b : Nat} (hb : editT.bulk x ≤ b) (hb2 : b ≤ 1048576) : ∃ av dv, cs = [.int .u64 x.1, .int .u64 x.2.1, .int .u64 x.2.2.1, av, dv] ∧ EdIn B W (toE x) av dv := by
  obtain ⟨next, seq, log, add, drop, uu⟩ := x
  obtain ⟨c1, d1, rfl, _, ⟨rfl, w1⟩, c2, d2, rfl, _, ⟨rfl, w2⟩, c3, d3, rfl, _, ⟨rfl, w3⟩, c4, d4, rfl, _, h4, c5, d5, rfl, _, h5, rfl⟩ := h
  obtain ⟨a, cap, tb, off, h1, _, _, h2, h3⟩ := h4
  obtain ⟨a', cap', tb', off', h1', _, _, h2', h3'⟩ := h5
  change List TD at add
  change List Int at drop
  replace hb : 1 + (1 + (1 + (((add.map fun x : TD => 1 + (1 + (1 + (1 + (x.2.2.2.2.1.length + 1 + (x.2.2.2.2.2.1.length + 1 + 0))))) + 1).sum + 1) + (((drop.map fun _ => 1).sum + 1) + 0)))) + 1 ≤ b := hb
  have hl1 := len_sum10 (fun x : TD => 1 + (1 + (1 + (1 + (x.2.2.2.2.1.length + 1 + (x.2.2.2.2.2.1.length + 1 + 0))))) + 1) (fun x => by omega) add
  have hl2 := len_sum10 (fun _ : Int => 1) (fun _ => Nat.le_refl _) drop
  obtain ⟨q1, q2⟩ := u64m w1
  obtain ⟨q3, q4⟩ := u64m w2
  obtain ⟨q5, q6⟩ := u64m w3
  subst h1
  subst h1'
  simp only at h2 h3 h2' h3' q1 q2 q3 q4 q5 q6
  refine ⟨_, _, rfl, ⟨a, cap, tb, off, by rw [show (toE (next, seq, log, add, drop, uu)).add = add.map toT from rfl, List.length_map]; rfl, fun h0 => h2 (by rw [show (toE (next, seq, log, add, drop, uu)).add = add.map toT from rfl, List.length_map] at h0; exact h0), fun j hj => ?_⟩, ⟨a', cap', tb', off', rfl, h2', fun j hj => ?_⟩, ?_, ?_, q1, q2, q3, q4, q5, q6, ?_, ?_⟩
  · have hj' : j < add.length := by rw [show (toE (next, seq, log, add, drop, uu)).add = add.map toT from rfl, List.length_map] at hj; exact hj
    obtain ⟨cs', g1, g2, g3⟩ := h3 j hj'
    obtain ⟨rfl, _⟩ := rd_tab g3
    have e2 : (toE (next, seq, log, add, drop, uu)).add[j] = toT add[j] := by simp [toE]
    rw [e2]
    exact ⟨g2 0 (by decide), g2 1 (by decide), g2 2 (by decide), g2 3 (by decide), g2 4 (by decide), g2 5 (by decide)⟩
  · obtain ⟨cs', g1, g2, g3⟩ := h3' j hj
    obtain ⟨rfl, _⟩ := g3
    have := g2 0 (by decide)
    rw [show (Ty.int IntKind.u64).size = 1 from rfl, Nat.mul_one, Nat.add_zero] at this
    exact this
  · intro x hx
    obtain ⟨y, hy, rfl⟩ := List.mem_map.1 hx
    obtain ⟨j, hj, rfl⟩ := List.getElem_of_mem hy
    obtain ⟨cs', g1, g2, g3⟩ := h3 j hj
    obtain ⟨_, ⟨r1, r2⟩, ⟨r3, r4⟩, ⟨r5, r6⟩, r7, r8⟩ := rd_tab g3
    have hm := mem_sum10 (fun x : TD => 1 + (1 + (1 + (1 + (x.2.2.2.2.1.length + 1 + (x.2.2.2.2.2.1.length + 1 + 0))))) + 1) add j hj
    exact ⟨r1, r2, r3, r4, r5, r6, r7, r8, by show add[j].2.2.2.2.1.length ≤ _; omega, by show add[j].2.2.2.2.2.1.length ≤ _; omega⟩
  · intro d hd
    obtain ⟨j, hj, rfl⟩ := List.getElem_of_mem hd
    obtain ⟨cs', g1, g2, g3⟩ := h3' j hj
    exact u64m g3.2
  · rw [show (toE (next, seq, log, add, drop, uu)).add = add.map toT from rfl, List.length_map]; omega
  · show drop.length ≤ _; omega

variable {H : Type} {enc : TypeId × Value → H} {W : World}
set_option maxRecDepth 100000 in
theorem open_ed {B : Nat} {v : Value} {d : DataW H} {p : List MemPlace} {base : Nat} (hv : Value.okWide Try.prog W .any base 30 v)
    (h : DataW.Trod enc Try.prog W 0 (fun _ => true) true 30 v d p) (hlt : ∀ x ∈ p, x.block < W.heap.size) (hB : Rows.uptoBulk d ≤ B) (hB2 : B ≤ 1048576 := by omega) :
    ∃ (e : Ed) (av dv : Value), v = edV e av dv ∧ EdIn W.heap.size W e av dv := by
  obtain ⟨cs, x, rfl, hx, hb⟩ := open_val editT (by kernel_rfl) hv h hB
  obtain ⟨av, dv, rfl, hE⟩ := rd_edit (x := x) hx hb hB2
  exact ⟨toE x, av, dv, rfl, hE⟩
end Mf
end Go.Proofs.Ytpldfdlnhgmnaaa

/-
  Rows of edits that came in, opened.
-/
namespace Go.Proofs.Ytpldfdlnhgmnaaa
open Go.RowKit
set_option linter.unusedVariables false
set_option linter.unusedSimpArgs false
namespace Mf
open Gn
/-- a slice is no longer than it has room -/
def DCap (v : Value) : Prop := ∀ a n c, v = .slice a n c → n ≤ c
theorem rd_edit_cap {B : Nat} {W : World} {cs : List Value} {x : ED} (h : RdC B W editT cs x) {n s g av dv : Value} (e : cs = [n, s, g, av, dv]) : DCap dv := by
  obtain ⟨next, seq, log, add, drop, uu⟩ := x
  obtain ⟨c1, d1, rfl, _, ⟨rfl, w1⟩, c2, d2, rfl, _, ⟨rfl, w2⟩, c3, d3, rfl, _, ⟨rfl, w3⟩, c4, d4, rfl, _, h4, c5, d5, rfl, _, h5, rfl⟩ := h
  obtain ⟨a, cap, tb, off, h1, _, _, h2, h3⟩ := h4
  obtain ⟨a', cap', tb', off', h1', hc', _, h2', h3'⟩ := h5
  subst h1
  subst h1'
  simp at e
  obtain ⟨_, _, _, _, rfl⟩ := e
  intro a2 n2 c2 hh
  injection hh with e1 e2 e3
  subst e2 e3
  exact hc'
/-- a row of edits, and where each of them lies -/
structure EdsIn (W : World) (a : Option Addr) (es : List Ed) (b off : Nat) : Prop where
  base : 0 < es.length → a = some ⟨b, off, none⟩ ∧ b < W.heap.size
  each : ∀ j (h : j < es.length), ∃ av dv, W.cell? ⟨b, off + j * 5, none⟩ = some (.int .u64 es[j].next) ∧ W.cell? ⟨b, off + j * 5 + 1, none⟩ = some (.int .u64 es[j].seq) ∧ W.cell? ⟨b, off + j * 5 + 2, none⟩ = some (.int .u64 es[j].log) ∧ W.cell? ⟨b, off + j * 5 + 3, none⟩ = some av ∧ W.cell? ⟨b, off + j * 5 + 4, none⟩ = some dv ∧ EdIn W.heap.size W es[j] av dv ∧ DCap dv
  many : es.length ≤ 1048576
  adds : (es.map (·.add.length)).sum ≤ 1048576
  drops : (es.map (·.drop.length)).sum ≤ 1048576
theorem sum_map_le {α : Type} (f g : α → Nat) (h : ∀ x, f x ≤ g x) : ∀ l : List α, (l.map f).sum ≤ (l.map g).sum
  | [] => by simp
  | x :: r => by
    have h1 := sum_map_le f g h r
    have h2 := h x
    simp only [List.map_cons, List.sum_cons]
    omega
def ebulk (x : ED) : Nat := editT.bulk x
theorem ebulk_eq (x : ED) : ebulk x = 1 + (1 + (1 + (((x.2.2.2.1.map fun x : TD => 1 + (1 + (1 + (1 + (x.2.2.2.2.1.length + 1 + (x.2.2.2.2.2.1.length + 1 + 0))))) + 1).sum + 1) + (((x.2.2.2.2.1.map fun _ => 1).sum + 1) + 0)))) + 1 := rfl
theorem ebulk_add (x : ED) : (toE x).add.length ≤ ebulk x := by
  have h := len_sum10 (fun x : TD => 1 + (1 + (1 + (1 + (x.2.2.2.2.1.length + 1 + (x.2.2.2.2.2.1.length + 1 + 0))))) + 1) (fun x => by omega) x.2.2.2.1
  rw [ebulk_eq, show (toE x).add = x.2.2.2.1.map toT from rfl, List.length_map]
  omega
theorem ebulk_drop (x : ED) : (toE x).drop.length ≤ ebulk x := by
  have h := len_sum10 (fun _ : Int => 1) (fun _ => Nat.le_refl _) x.2.2.2.2.1
  rw [ebulk_eq, show (toE x).drop = x.2.2.2.2.1 from rfl]
  omega
theorem ebulk_pos (x : ED) : 1 ≤ ebulk x := by
  rw [ebulk_eq]
  omega
theorem eds_of_rd {W : World} {cs : List Value} {X : List ED} (h : RdC W.heap.size W (.slice editT) cs X) (hb : (X.map ebulk).sum + 1 ≤ 1048576) : ∃ a cap b off, cs = [.slice a (X.map toE).length cap] ∧ EdsIn W a (X.map toE) b off := by
  obtain ⟨a, cap, b, off, h1, _, _, h2, h3⟩ := h
  have hs1 := sum_map_le (fun x : ED => (toE x).add.length) ebulk ebulk_add X
  have hs2 := sum_map_le (fun x : ED => (toE x).drop.length) ebulk ebulk_drop X
  have hl := len_sum10 ebulk ebulk_pos X
  refine ⟨a, cap, b, off, by rw [List.length_map]; exact h1, ⟨fun h0 => h2 (by rwa [List.length_map] at h0), fun j hj => ?_, by rw [List.length_map]; omega, by rw [List.map_map]; exact Nat.le_trans hs1 (by omega), by rw [List.map_map]; exact Nat.le_trans hs2 (by omega)⟩⟩
  rw [List.length_map] at hj
  obtain ⟨cs', g1, g2, g3⟩ := h3 j hj
  have hm := mem_sum10 ebulk X j hj
  obtain ⟨av, dv, hcs, hE⟩ := rd_edit (x := X[j]) g3 (b := 1048576) (show ebulk X[j] ≤ 1048576 by omega) (Nat.le_refl _)
  have hD := rd_edit_cap g3 hcs
  subst hcs
  rw [List.getElem_map]
  exact ⟨av, dv, g2 0 (by decide), g2 1 (by decide), g2 2 (by decide), g2 3 (by decide), g2 4 (by decide), hE, hD⟩

variable {H : Type} {enc : TypeId × Value → H} {W : World}
set_option maxRecDepth 100000 in
theorem open_eds {B : Nat} {v : Value} {d : DataW H} {p : List MemPlace} {base : Nat} (hv : Value.okWide Try.prog W .any base 22 v)
    (h : DataW.Trod enc Try.prog W 0 (fun _ => true) true 22 v d p) (hlt : ∀ x ∈ p, x.block < W.heap.size) (hB : Rows.uptoBulk d ≤ B) (hB2 : B ≤ 1048576 := by omega) :
    ∃ (a : Option Addr) (n cap : Nat) (es : List Ed) (b off : Nat), v = .slice a n cap ∧ (n = es.length ∧ EdsIn W a es b off) := by
  obtain ⟨cs, l, rfl, hx, hb⟩ := open_val (.slice editT) (by kernel_rfl) hv h hB
  have hb2 : (l.map ebulk).sum + 1 ≤ B := hb
  obtain ⟨a, cap, b, off, rfl, hE⟩ := eds_of_rd (X := l) hx (by omega)
  exact ⟨a, _, cap, _, b, off, rfl, rfl, hE⟩
end Mf
end Go.Proofs.Ytpldfdlnhgmnaaa

/-
  The document's answer of chapter 10, Apply: what its pieces speak of; the function's loops, out of the translation.
-/
namespace Go.Proofs.Ytpldfdlnhgmnaaa
open Go.RowKit
set_option linter.unusedSimpArgs false
set_option linter.unusedVariables false
namespace Mf
open Op (bytesLess)
open Md10 (setCell_self)
theorem LvIn.drewd {B : Nat} {W : World} {l : Lv} {u0 u1 u2 u3 : Value} (h : LvIn B W l u0 u1 u2 u3) : LvIn B W.drew l u0 u1 u2 u3 := h.grow (Below.refl _ _).drew (Nat.le_refl _)
/-- four rows of the call's own, no two in one block -/
structure LvO (B : Nat) (t : List (List Tbl)) (u : Nat → Value) (W : World) : Prop where
  row : ∀ k, k < 4 → W.ownsRow B 38 6 (u k) (t.getD k []).length (tcs (t.getD k []))
  dis : ∀ i j, i < 4 → j < 4 → i ≠ j → ∀ r, (u i).ownBlock = some r → (u j).ownBlock ≠ some r
  four : t.length = 4
variable {B b : Nat} {n s g : Int} {t : List (List Tbl)} {u : Nat → Value} {W W2 : World}
theorem LvO.nil (B : Nat) (W : World) : LvO B lv0.t (fun _ => .slice none 0 0) W := by
  refine ⟨fun k hk => ?_, fun i j _ _ _ r hr => by simp [Value.ownBlock] at hr, rfl⟩
  have e : lv0.t.getD k [] = [] := by
    have : k = 0 ∨ k = 1 ∨ k = 2 ∨ k = 3 := by omega
    rcases this with rfl | rfl | rfl | rfl <;> rfl
  rw [e]
  exact World.ownsRow_nil _ _ _ _
theorem LvO.below (h : LvO B t u W) (hb : Below W.heap.size W W2) : LvO B t u W2 := ⟨fun k hk => own_below (h.row k hk) hb, h.dis, h.four⟩
theorem LvO.lower {B' : Nat} (h : LvO B t u W) (hB : B' ≤ B) : LvO B' t u W := ⟨fun k hk => lowerR (h.row k hk) hB, h.dis, h.four⟩
/-- it is read as a Live -/
theorem LvO.live (h : LvO B t u W) (hl : ∀ r ∈ t, r.length ≤ 1048576) (n s g : Int) : LvIn W.heap.size W ⟨n, s, g, t⟩ (u 0) (u 1) (u 2) (u 3) :=
  ⟨h.four, tbs_of_own (h.row 0 (by omega)), tbs_of_own (h.row 1 (by omega)), tbs_of_own (h.row 2 (by omega)), tbs_of_own (h.row 3 (by omega)), hl⟩
theorem LvS.out {B' : Nat} (h : LvS B b n s g t u W) (hB : B' ≤ B) : LvO B' t u W := ⟨fun k hk => lowerR (h.row k hk) hB, h.dis, h.four⟩
theorem EdIn.at {w W : World} {e : Ed} {av dv : Value} (hE : EdIn w.heap.size w e av dv) (hb : Below w.heap.size w W) : EdIn W.heap.size W e av dv :=
  ⟨hE.add.grow hb hb.size, hE.drop.grow hb hb.size, hE.each, hE.ds, hE.n0, hE.n1, hE.s0, hE.s1, hE.l0, hE.l1, hE.many, hE.few⟩
theorem tC_one (x : Tbl) : ∀ v ∈ tC x, v.oneCell' = true := by
  intro v hv
  simp [tC] at hv
  rcases hv with rfl | rfl | rfl | rfl | rfl | rfl <;> rfl
theorem lev_box {W : World} {b : Nat} {x y z : Value} {u : Nat → Value} (h : Ob.Obj W b 27 [x, y, z, u 0, u 1, u 2, u 3]) {k : Nat} (hk : k < 4) : W.cell? ⟨b, 3 + k, none⟩ = some (u k) := by
  have : k = 0 ∨ k = 1 ∨ k = 2 ∨ k = 3 := by omega
  rw [h.cell]
  rcases this with rfl | rfl | rfl | rfl <;> rfl
/-- a level's row has grown by one table, and is put back -/
theorem LvS.grow (h : LvS B b n s g t u W) {k : Nat} (hk : k < 4) {x : Tbl} {o : Obj} {ao : Option Addr} {cap gb cap8 H : Nat} {w8 : World} (huk : u k = .slice ao (t.getD k []).length cap)
    (hown : w8.ownsRow B 38 6 (.slice (some ⟨gb, 0, none⟩) ((t.getD k []).length + 1) cap8) ((t.getD k []).length + 1) (tcs (t.getD k []) ++ tC x)) (hgrow : (W.alloc o).drew.grownBy w8 (.slice ao (t.getD k []).length cap : Value).ownBlock)
    (hat : (.slice ao (t.getD k []).length cap : Value).ownBlock = some gb ∨ gb = H) (hH : W.heap.size ≤ H) :
    LvS B b n s g (t.set k (t.getD k [] ++ [x])) (upd u k (.slice (some ⟨gb, 0, none⟩) ((t.getD k []).length + 1) cap8)) (w8.setCell ⟨b, 3 + k, none⟩ (.slice (some ⟨gb, 0, none⟩) ((t.getD k []).length + 1) cap8)) := by
  refine h.put hk (((Sq.Kept.alloc _ W o).trans (Sq.Kept.drew _ _)).trans (Sq.Kept.grown hgrow (fun r hr h => h (by rw [huk]; exact hr)))) ?_ (fun r hr => ?_)
  · have e1 : (t.getD k [] ++ [x]).length = (t.getD k []).length + 1 := by simp
    have e2 : tcs (t.getD k [] ++ [x]) = tcs (t.getD k []) ++ tC x := by simp [tcs]
    rw [e1, e2]
    exact hown
  · rw [huk]
    have : gb = r := by simpa [Value.ownBlock] using hr
    subst this
    rcases hat with h1 | h1
    · exact .inl h1
    · exact .inr (by omega)
theorem LvS.setBelow (h : LvS B b n s g t u W) (hB : b ≤ B) {p : Addr} (hp : p.block < b) (v : Value) : LvS B b n s g t u (W.setCell p v) :=
  h.kept (Sq.Kept.setCell (T := fun r => r ≠ p.block) W v (by simp)) (by omega) (fun k hk r hr => by have := (Ob.row_lt (h.row k hk) hr).1; omega)
theorem LvS.set7 (h : LvS (b + 1) b n s g t u W) {r : Nat} (hp : r < b) (v0 v1 v2 v3 v4 v5 v6 : Value) : LvS (b + 1) b n s g t u (((((((W.setCell ⟨r, 0, none⟩ v0).setCell ⟨r, 1, none⟩ v1).setCell ⟨r, 2, none⟩ v2).setCell ⟨r, 3, none⟩ v3).setCell ⟨r, 4, none⟩ v4).setCell ⟨r, 5, none⟩ v5).setCell ⟨r, 6, none⟩ v6) :=
  ((((((h.setBelow (by omega) (p := ⟨r, 0, none⟩) hp v0).setBelow (by omega) (p := ⟨r, 1, none⟩) hp v1).setBelow (by omega) (p := ⟨r, 2, none⟩) hp v2).setBelow (by omega) (p := ⟨r, 3, none⟩) hp v3).setBelow (by omega) (p := ⟨r, 4, none⟩) hp v4).setBelow (by omega) (p := ⟨r, 5, none⟩) hp v5).setBelow (by omega) (p := ⟨r, 6, none⟩) hp v6
theorem below7 {w W : World} {m : Nat} (h : Below m w W) {r : Nat} (hp : m ≤ r) (v0 v1 v2 v3 v4 v5 v6 : Value) : Below m w (((((((W.setCell ⟨r, 0, none⟩ v0).setCell ⟨r, 1, none⟩ v1).setCell ⟨r, 2, none⟩ v2).setCell ⟨r, 3, none⟩ v3).setCell ⟨r, 4, none⟩ v4).setCell ⟨r, 5, none⟩ v5).setCell ⟨r, 6, none⟩ v6) :=
  ((((((h.setCell (p := ⟨r, 0, none⟩) hp v0).setCell (p := ⟨r, 1, none⟩) hp v1).setCell (p := ⟨r, 2, none⟩) hp v2).setCell (p := ⟨r, 3, none⟩) hp v3).setCell (p := ⟨r, 4, none⟩) hp v4).setCell (p := ⟨r, 5, none⟩) hp v5).setCell (p := ⟨r, 6, none⟩) hp v6
theorem Ns.take {B : Nat} {a : Option Addr} {cap : Nat} {l : List Int} (h : Ns B W (.slice a l.length cap) l) {q : Nat} (hq : q ≤ l.length) : Ns B W (.slice a q cap) (l.take q) := by
  obtain ⟨a', cap', fb, fo, h1, h2, h3⟩ := h
  injection h1 with e1 e2 e3
  subst e1 e3
  refine ⟨a, cap, fb, fo, by rw [List.length_take, Nat.min_eq_left hq], fun h0 => h2 (by rw [List.length_take] at h0; omega), fun j hj => ?_⟩
  rw [List.length_take] at hj
  rw [List.getElem_take]
  exact h3 j (by omega)


/-- a Live of these levels, made since then -/
def AddedTo (wo : World) (bo : Nat) (n s g : Int) (T : List (List Tbl)) (W : World) : Prop := ∃ u, LvS (bo + 1) bo n s g T u W ∧ Below wo.heap.size wo W
/-- behind a piece of a function's body: what holds at a return, what at an exit; it ends in no other way -/
def Post (R : Act → World → Prop) (X : Nat → Act → World → Prop) : Exit → Act → World → Prop
  | .ret, a, w => R a w
  | .exit id, a, w => X id a w
  | _, _, _ => False
theorem wp_post {P : Program} {c : Code} {Q : Exit → Act → World → Prop} {a : Act} {w : World} (h : c.wp P (Post (Q .ret) (fun id => Q (.exit id))) a w) : c.wp P Q a w :=
  wp_mono h fun e a w h => by cases e <;> first | exact h | exact h.elim
/-- the loops of a code, the outermost ones, in the text's order -/
def loopsOf : Code → List Code
  | .loop c => [.loop c]
  | .seq a b => loopsOf a ++ loopsOf b
  | .block _ c => loopsOf c
  | .scope c => loopsOf c
  | .cond _ a b => loopsOf a ++ loopsOf b
  | _ => []
def inLoop : Code → List Code
  | .loop c => loopsOf c
  | _ => []

noncomputable def apLoop (n : Nat) : Code := (((Try.f10.body.map loopsOf).getD [])[n]?).getD .skip

noncomputable def apInner (n m : Nat) : Code := (((((Try.f10.body.map loopsOf).getD [])[n]?.map inLoop).getD [])[m]?).getD .skip
end Mf
end Go.Proofs.Ytpldfdlnhgmnaaa

/-
  compact.Score: how much there is in a level, and how much there may be.
-/
namespace Go.Proofs.Ytpldfdlnhgmnaaa
open Go.RowKit
set_option linter.unusedSimpArgs false
set_option linter.unusedVariables false
namespace Cp
open Mf (Tbl Lv lvV LvIn Tbs TAt TblIn uA box_lev)
/-- a level's bound -/
def mostQ (b : Int) (q : Nat) : Int := if q = 0 then b else 4 * b
theorem scoreP_up {c : Cfg} {t : List (List Tbl)} {K : Nat} (hm : mayC c = true) (hK : K = 1 ∨ K = 2) : scoreP c t K = (sizeP (t.getD K []), mostQ c.base (K - 1)) := by
  unfold scoreP mostQ wt
  rcases hK with rfl | rfl
  · simp [hm]
  · simp [hm]
theorem scoreP_no {c : Cfg} {t : List (List Tbl)} {k : Int} (hm : (mayC c && wt k 0 2) = false) : scoreP c t k = (0, 0) := by
  unfold scoreP
  rw [hm]
  rfl
theorem scoreP_zero {c : Cfg} {t : List (List Tbl)} (hm : mayC c = true) : scoreP c t 0 = (((t.getD 0 []).length : Int), c.files - 1) := by
  unfold scoreP wt
  simp [hm]

set_option maxRecDepth 100000 in
set_option maxHeartbeats 4000000 in
theorem score_any (c : Cfg) (l : Lv) (u0 u1 u2 u3 : Value) (k : Int) (w : World) (hU : LvIn w.heap.size w l u0 u1 u2 u3) (hS : ∀ r ∈ l.t, Siz r) :
    Calls Try.prog 20 #[cfgV c, lvV l u0 u1 u2 u3, .int .i64 k] w fun e w' => e = .returned (.tuple #[.int .i64 (scoreP c l.t k).1, .int .i64 (scoreP c l.t k).2]) ∧ Below w.heap.size w w' := by
  have HU := Lib.hid hU
  have HMY := Lib.hid (fun W => mayBe_any c W)
  have HGD := Lib.hid (fun W => goesDown_any k W)
  obtain ⟨m, hm⟩ : ∃ m, mayC c = m := ⟨_, rfl⟩
  obtain ⟨g, hg⟩ : ∃ g, wt k 0 2 = g := ⟨_, rfl⟩
  rw [hm] at HMY
  rw [hg] at HGD
  have HM := Lib.hid hm
  have HG := Lib.hid hg
  have hgl : ∀ k, (l.t.getD k []).length ≤ 1048576 := fun k => Mf.getD_le hU.len k
  have HSZ := Lib.hid (show ∀ k, Siz (l.t.getD k []) from fun k => by
    by_cases hk : k < l.t.length
    · rw [List.getD_eq_getElem?_getD, List.getElem?_eq_getElem hk, Option.getD_some]; exact hS _ (List.getElem_mem hk)
    · rw [List.getD_eq_getElem?_getD, List.getElem?_eq_none (by omega), Option.getD_none]; exact fun x hx => by cases hx)
  obtain ⟨a0, n0, c0, rfl⟩ : ∃ a n c, u0 = .slice a n c := by obtain ⟨a, c, _, _, h, _⟩ := hU.r0; exact ⟨a, _, c, h⟩
  obtain ⟨a1, n1, c1, rfl⟩ : ∃ a n c, u1 = .slice a n c := by obtain ⟨a, c, _, _, h, _⟩ := hU.r1; exact ⟨a, _, c, h⟩
  obtain ⟨a2, n2, c2, rfl⟩ : ∃ a n c, u2 = .slice a n c := by obtain ⟨a, c, _, _, h, _⟩ := hU.r2; exact ⟨a, _, c, h⟩
  obtain ⟨a3, n3, c3, rfl⟩ : ∃ a n c, u3 = .slice a n c := by obtain ⟨a, c, _, _, h, _⟩ := hU.r3; exact ⟨a, _, c, h⟩
  obtain ⟨x0, x1, x2, x3, x4, x5, x6, x7⟩ := c
  obtain ⟨wA, hA⟩ : ∃ wA, w.alloc (.cells #[.int .i64 x0, .int .i64 x1, .int .i64 x2, .int .i64 x3, .int .i64 x4, .int .i64 x5, .int .i64 x6, .int .u64 x7] 50) = wA := ⟨_, rfl⟩
  have bA : Below w.heap.size w wA := by rw [← hA]; exact (Below.refl _ _).alloc (Nat.le_refl _) _
  have xA : Ob.Obj wA w.heap.size 50 [.int .i64 x0, .int .i64 x1, .int .i64 x2, .int .i64 x3, .int .i64 x4, .int .i64 x5, .int .i64 x6, .int .u64 x7] := by rw [← hA]; exact Ob.Obj.new w _ [.int .i64 x0, .int .i64 x1, .int .i64 x2, .int .i64 x3, .int .i64 x4, .int .i64 x5, .int .i64 x6, .int .u64 x7]
  obtain ⟨bl, hbl⟩ : ∃ j, wA.heap.size = j := ⟨_, rfl⟩
  obtain ⟨wB, hB⟩ : ∃ wB, wA.alloc (.cells #[.int .u64 l.next, .int .u64 l.seq, .int .u64 l.log, .slice a0 n0 c0, .slice a1 n1 c1, .slice a2 n2 c2, .slice a3 n3 c3] 27) = wB := ⟨_, rfl⟩
  have bB : Below w.heap.size w wB := by rw [← hB]; exact bA.alloc bA.size _
  have yB : Ob.Obj wB bl 27 [.int .u64 l.next, .int .u64 l.seq, .int .u64 l.log, .slice a0 n0 c0, .slice a1 n1 c1, .slice a2 n2 c2, .slice a3 n3 c3] := by rw [← hB, ← hbl]; exact Ob.Obj.new wA _ [.int .u64 l.next, .int .u64 l.seq, .int .u64 l.log, .slice a0 n0 c0, .slice a1 n1 c1, .slice a2 n2 c2, .slice a3 n3 c3]
  have xB : Ob.Obj wB w.heap.size 50 [.int .i64 x0, .int .i64 x1, .int .i64 x2, .int .i64 x3, .int .i64 x4, .int .i64 x5, .int .i64 x6, .int .u64 x7] := by rw [← hB]; exact xA.alloc _
  have k0 := xB.cell 0
  have k1 := xB.cell 1
  have k2 := xB.cell 2
  have k3 := xB.cell 3
  have k4 := xB.cell 4
  have k5 := xB.cell 5
  have k6 := xB.cell 6
  have k7 := xB.cell 7
  simp at k0 k1 k2 k3 k4 k5 k6 k7
  unfold cfgV lvV at *
  simp only at HMY ⊢
  clear hU hS hm hg bA xA
  cases hmg : (m && g) with
  | false =>
    have HR := Lib.hid (scoreP_no (c := ⟨x0, x1, x2, x3, x4, x5, x6, x7⟩) (t := l.t) (k := k) (by rw [HM.out, HG.out]; exact hmg))
    go_enter Try.func20, Try.ntmps20
    cases m with
    | false =>
      go_wp2_with (first
    | (go_at_call 45; (with_reducible refine (HMY.out _).mono ?_); rintro e w2 ⟨rfl, hb2⟩)
    | (go_at_call 46; (with_reducible refine (HGD.out _).mono ?_); rintro e w3 ⟨rfl, rfl⟩))
      go_ret2
      exact ⟨by rw [HR.out]; rfl, bB.trans (hb2.mono bB.size)⟩
    | true =>
      cases g with
      | true => cases hmg
      | false =>
        go_wp2_with (first
    | (go_at_call 45; (with_reducible refine (HMY.out _).mono ?_); rintro e w2 ⟨rfl, hb2⟩)
    | (go_at_call 46; (with_reducible refine (HGD.out _).mono ?_); rintro e w3 ⟨rfl, rfl⟩))
        go_ret2
        exact ⟨by rw [HR.out]; rfl, bB.trans (hb2.mono bB.size)⟩
  | true =>
    obtain ⟨rfl, rfl⟩ : m = true ∧ g = true := by simpa using hmg
    have hnum := mayC_num HM.out
    simp only at hnum
    obtain ⟨f1, f2, f3, f4⟩ := hnum
    have hw : 0 ≤ k ∧ k ≤ 2 := by have := HG.out; unfold wt at this; simpa using this
    by_cases hk0 : k = 0
    · subst hk0
      have HR := Lib.hid (scoreP_zero (c := ⟨x0, x1, x2, x3, x4, x5, x6, x7⟩) (t := l.t) HM.out)
      have hw1 : IntKind.i64.wrap (x4 - 1) = x4 - 1 := by rw [IntKind.wrap_i64]; omega
      obtain ⟨a, cap, b, off, hv, ha, hc⟩ := HU.out.r0
      injection hv with hv1 hv2 hv3
      have HN := Lib.hid hv2
      clear ha hc hv1 hv2 hv3
      go_enter Try.func20, Try.ntmps20
      go_upto_region 4 with (first
    | (go_at_call 45; (with_reducible refine (HMY.out _).mono ?_); rintro e w2 ⟨rfl, hb2⟩)
    | (go_at_call 46; (with_reducible refine (HGD.out _).mono ?_); rintro e w3 ⟨rfl, rfl⟩))
      have y2 := yB.below hb2
      have x2' := xB.below hb2
      have q3 := y2.cell 3
      have q4 := x2'.cell 4
      simp at q3 q4
      have b2 := bB.trans (hb2.mono bB.size)
      go_big_quiet (fail)
      all_goals (try go_wp2_with fail)
      all_goals go_ret2
      all_goals exact ⟨by rw [HR.out, HN.out]; rfl, belowN b2 _⟩
    · obtain ⟨K, rfl⟩ : ∃ K : Nat, k = (K : Int) := ⟨k.toNat, by omega⟩
      have hK : K = 1 ∨ K = 2 := by omega
      have hKn : ¬ (K : Int) = 0 := by omega
      have hKb : ((K : Int) == 0) = false := by simpa using hKn
      have hKi : (0 : Int) ≤ (K : Int) ∧ (K : Int) < 4 := by omega
      have HR := Lib.hid (scoreP_up (c := ⟨x0, x1, x2, x3, x4, x5, x6, x7⟩) (t := l.t) HM.out hK)
      have hK4 : K < 4 := by omega
      obtain ⟨a, cap, b, off, hv, ha, hc⟩ := HU.out.lev hK4
      have HC := Lib.hid hc
      have hln := hgl K
      have HSK := Lib.hid (HSZ.out K)
      have HV := Lib.hid hv
      have hckB := box_lev yB hK4
      rw [hv] at hckB
      have HUA := Lib.hid hckB
      clear hv hc HU HSZ hgl hk0 hKn hw hckB
      go_enter Try.func20, Try.ntmps20
      go_upto_region 5 with (first
        | (go_at_call 45; (with_reducible refine (HMY.out _).mono ?_); rintro e w2 ⟨rfl, hb2⟩)
        | (go_at_call 46; (with_reducible refine (HGD.out _).mono ?_); rintro e w3 ⟨rfl, rfl⟩))
      have y2 := yB.below hb2
      have x2' := xB.below hb2
      have q5 := x2'.cell 5
      simp at q5
      have b2 := bB.trans (hb2.mono bB.size)
      have ck := (hb2.cell (p := ⟨bl, 3 + K, none⟩) yB.lt).trans HUA.out
      clear k0 k1 k2 k3 k4 k5 k6 k7 hA hB hbl HMY HGD
      go_cut [8, 9] from 29 to 30 (fun x y wx => x = .int .i64 0 ∧ y = .int .i64 x5 ∧ Below w2.heap.size w2 wx)
      case first =>
        go_big_quiet (fail)
        all_goals (try go_wp2_with fail)
        all_goals (try go_meet)
        all_goals exact ⟨rfl, rfl, belowN (Below.refl _ _) _⟩
      case rest =>
        obtain ⟨rfl, rfl, hb3⟩ := hcut
        have y3 := y2.below hb3
        have ck := (hb3.cell (p := ⟨bl, 3 + K, none⟩) y2.lt).trans ck
        have b3 := b2.trans (hb3.mono b2.size)
        clear q5 hb3 b2 hb2
        go_wp2_with fail
        go_loopw [36, 8] (fun i s wr => ∃ q : Nat, q ≤ (l.t.getD K []).length ∧ i = .int .i64 (q : Int) ∧ s = .int .i64 (sizeP ((l.t.getD K []).take q)) ∧ Below wc.heap.size wc wr) (fun i _ _ => (l.t.getD K []).length - (intOf i).toNat)
        case atStart => exact ⟨0, Nat.zero_le _, rfl, rfl, Below.refl _ _⟩
        case round =>
          obtain ⟨q, hq, rfl, rfl, hB⟩ := hrel
          obtain ⟨wo, rfl⟩ : ∃ wo : World, wo = wr := ⟨_, rfl⟩
          have b4 := b3.trans (hB.mono b3.size)
          by_cases hlt : q < (l.t.getD K []).length
          · obtain ⟨rfl, hbl2⟩ := ha (by omega)
            obtain ⟨g0, g1, g2, g3, g4, g5⟩ := (HC.out q hlt).below b4 hbl2
            have hi3 : (0 : Int) ≤ (q : Int) ∧ (q : Int) < ((l.t.getD K []).length : Int) := by omega
            obtain ⟨s1, s2⟩ := HSK.out _ (List.getElem_mem hlt)
            obtain ⟨s3, s4⟩ := sizeP_take HSK.out q hq
            have HSN := Lib.hid (show sizeP ((l.t.getD K []).take (q + 1)) = sizeP ((l.t.getD K []).take q) + (l.t.getD K [])[q].siz by rw [List.take_succ_eq_append_getElem hlt, sizeP_snoc])
            generalize sizeP ((l.t.getD K []).take q) = S at *
            generalize (l.t.getD K [])[q] = x at *
            have hwr : IntKind.i64.wrap (S + x.siz) = S + x.siz := by rw [IntKind.wrap_i64]; omega
            go_wp2_with fail
            go_roundw
            case rel => exact ⟨q + 1, by omega, by go_num, by rw [HSN.out], hB.alloc hB.size _⟩
            case measure => simp [intOf]; omega
          · obtain rfl : q = (l.t.getD K []).length := by omega
            rw [List.take_length] at *
            have hi3 : ¬ ((l.t.getD K []).length : Int) < ((l.t.getD K []).length : Int) := by omega
            obtain ⟨k1, hk1⟩ : ∃ k1, K - 1 = k1 := ⟨_, rfl⟩
            have hkw : IntKind.i64.wrap ((K : Int) - 1) = (k1 : Int) := by rw [IntKind.wrap_i64]; omega
            have hk12 : k1 ≤ 1 := by omega
            have HR2 := Lib.hid (show scoreP ⟨x0, x1, x2, x3, x4, x5, x6, x7⟩ l.t K = (sizeP (l.t.getD K []), mostQ x5 k1) by rw [HR.out, hk1])
            generalize sizeP (l.t.getD K []) = S at *
            clear HSK HC ha HR hk1 hq
            go_wp2_with fail
            go_loopw [47, 9] (fun i y wr => ∃ q : Nat, q ≤ k1 ∧ i = .int .i64 (q : Int) ∧ y = .int .i64 (mostQ x5 q) ∧ Below w.heap.size w wr) (fun i _ _ => k1 - (intOf i).toNat)
            case atStart => exact ⟨0, Nat.zero_le _, rfl, rfl, b4⟩
            case round =>
              obtain ⟨q, hq, rfl, rfl, hB5⟩ := hrel
              by_cases hlt2 : q < k1
              · obtain rfl : q = 0 := by omega
                have hm0 : mostQ x5 0 = x5 := rfl
                have hwr : IntKind.i64.wrap (x5 * 4) = x5 * 4 := by rw [IntKind.wrap_i64]; omega
                have hi4 : (0 : Int) < (k1 : Int) := by omega
                go_wp2_with fail
                go_roundw
                case rel => exact ⟨1, by omega, by go_num, by rw [show mostQ x5 1 = 4 * x5 from rfl, Int.mul_comm], hB5⟩
                case measure => simp [intOf]; omega
              · obtain rfl : q = k1 := by omega
                have hi4 : ¬ (q : Int) < (q : Int) := by omega
                go_wp2_with fail
                go_ret2
                exact ⟨by rw [HR2.out]; rfl, hB5⟩
end Cp
end Go.Proofs.Ytpldfdlnhgmnaaa

/-
  The document's answer of chapter 11: Right.
-/
namespace Go.Proofs.Ytpldfdlnhgmnaaa
open Go.RowKit
set_option linter.unusedSimpArgs false
set_option linter.unusedVariables false
namespace Cp
set_option maxRecDepth 100000 in
set_option maxHeartbeats 4000000 in
theorem rightR_any (c : Cfg) (w : World) :
    Calls Try.prog 47 #[cfgV c] w fun e w' => e = .returned (.bool (mayC c)) ∧ Below w.heap.size w w' := by
  obtain ⟨x0, x1, x2, x3, x4, x5, x6, x7⟩ := c
  unfold cfgV mayC wt
  simp only
  go_enter Try.func47, Try.ntmps47
  go_wp2_with fail
  all_goals go_ret
  all_goals refine ⟨congrArg (fun b => Ending.returned (.bool b)) ?_, (Below.refl _ _).alloc (Nat.le_refl _) _⟩
  all_goals (first | (simp_all; done) | (symm; simp only [Bool.and_eq_false_iff, decide_eq_false_iff_not]; omega) | (simp_all; omega))

end Cp
end Go.Proofs.Ytpldfdlnhgmnaaa

/-
  The document's answers of chapter 11: Right, Score.
-/
namespace Go.Proofs.Ytpldfdlnhgmnaaa
open Go.RowKit
set_option linter.unusedSimpArgs false
set_option linter.unusedVariables false
namespace Cp
open Mf (Tbl Lv lvV LvIn Tbs TAt TblIn uA box_lev)
set_option maxRecDepth 100000 in
set_option maxHeartbeats 4000000 in
theorem scoreR_any (c : Cfg) (l : Lv) (u0 u1 u2 u3 : Value) (k : Int) (w : World) (hU : LvIn w.heap.size w l u0 u1 u2 u3) (hS : ∀ r ∈ l.t, Siz r) :
    Calls Try.prog 21 #[cfgV c, lvV l u0 u1 u2 u3, .int .i64 k] w fun e w' => e = .returned (.tuple #[.int .i64 (scoreP c l.t k).1, .int .i64 (scoreP c l.t k).2]) ∧ Below w.heap.size w w' := by
  have HU := Lib.hid hU
  have HMY := Lib.hid (fun W => rightR_any c W)
  obtain ⟨m, hm⟩ : ∃ m, mayC c = m := ⟨_, rfl⟩
  obtain ⟨g, hg⟩ : ∃ g, wt k 0 2 = g := ⟨_, rfl⟩
  rw [hm] at HMY
  have HM := Lib.hid hm
  have HG := Lib.hid hg
  have hgl : ∀ k, (l.t.getD k []).length ≤ 1048576 := fun k => Mf.getD_le hU.len k
  have HSZ := Lib.hid (show ∀ k, Siz (l.t.getD k []) from fun k => by
    by_cases hk : k < l.t.length
    · rw [List.getD_eq_getElem?_getD, List.getElem?_eq_getElem hk, Option.getD_some]; exact hS _ (List.getElem_mem hk)
    · rw [List.getD_eq_getElem?_getD, List.getElem?_eq_none (by omega), Option.getD_none]; exact fun x hx => by cases hx)
  obtain ⟨a0, n0, c0, rfl⟩ : ∃ a n c, u0 = .slice a n c := by obtain ⟨a, c, _, _, h, _⟩ := hU.r0; exact ⟨a, _, c, h⟩
  obtain ⟨a1, n1, c1, rfl⟩ : ∃ a n c, u1 = .slice a n c := by obtain ⟨a, c, _, _, h, _⟩ := hU.r1; exact ⟨a, _, c, h⟩
  obtain ⟨a2, n2, c2, rfl⟩ : ∃ a n c, u2 = .slice a n c := by obtain ⟨a, c, _, _, h, _⟩ := hU.r2; exact ⟨a, _, c, h⟩
  obtain ⟨a3, n3, c3, rfl⟩ : ∃ a n c, u3 = .slice a n c := by obtain ⟨a, c, _, _, h, _⟩ := hU.r3; exact ⟨a, _, c, h⟩
  obtain ⟨x0, x1, x2, x3, x4, x5, x6, x7⟩ := c
  obtain ⟨wA, hA⟩ : ∃ wA, w.alloc (.cells #[.int .i64 x0, .int .i64 x1, .int .i64 x2, .int .i64 x3, .int .i64 x4, .int .i64 x5, .int .i64 x6, .int .u64 x7] 50) = wA := ⟨_, rfl⟩
  have bA : Below w.heap.size w wA := by rw [← hA]; exact (Below.refl _ _).alloc (Nat.le_refl _) _
  have xA : Ob.Obj wA w.heap.size 50 [.int .i64 x0, .int .i64 x1, .int .i64 x2, .int .i64 x3, .int .i64 x4, .int .i64 x5, .int .i64 x6, .int .u64 x7] := by rw [← hA]; exact Ob.Obj.new w _ [.int .i64 x0, .int .i64 x1, .int .i64 x2, .int .i64 x3, .int .i64 x4, .int .i64 x5, .int .i64 x6, .int .u64 x7]
  obtain ⟨bl, hbl⟩ : ∃ j, wA.heap.size = j := ⟨_, rfl⟩
  obtain ⟨wB, hB⟩ : ∃ wB, wA.alloc (.cells #[.int .u64 l.next, .int .u64 l.seq, .int .u64 l.log, .slice a0 n0 c0, .slice a1 n1 c1, .slice a2 n2 c2, .slice a3 n3 c3] 27) = wB := ⟨_, rfl⟩
  have bB : Below w.heap.size w wB := by rw [← hB]; exact bA.alloc bA.size _
  have yB : Ob.Obj wB bl 27 [.int .u64 l.next, .int .u64 l.seq, .int .u64 l.log, .slice a0 n0 c0, .slice a1 n1 c1, .slice a2 n2 c2, .slice a3 n3 c3] := by rw [← hB, ← hbl]; exact Ob.Obj.new wA _ [.int .u64 l.next, .int .u64 l.seq, .int .u64 l.log, .slice a0 n0 c0, .slice a1 n1 c1, .slice a2 n2 c2, .slice a3 n3 c3]
  have xB : Ob.Obj wB w.heap.size 50 [.int .i64 x0, .int .i64 x1, .int .i64 x2, .int .i64 x3, .int .i64 x4, .int .i64 x5, .int .i64 x6, .int .u64 x7] := by rw [← hB]; exact xA.alloc _
  have k0 := xB.cell 0
  have k1 := xB.cell 1
  have k2 := xB.cell 2
  have k3 := xB.cell 3
  have k4 := xB.cell 4
  have k5 := xB.cell 5
  have k6 := xB.cell 6
  have k7 := xB.cell 7
  simp at k0 k1 k2 k3 k4 k5 k6 k7
  unfold cfgV lvV at *
  simp only at HMY ⊢
  clear hU hS hm hg bA xA
  cases hmg : (m && g) with
  | false =>
    have HR := Lib.hid (scoreP_no (c := ⟨x0, x1, x2, x3, x4, x5, x6, x7⟩) (t := l.t) (k := k) (by rw [HM.out, HG.out]; exact hmg))
    go_enter Try.func21, Try.ntmps21
    cases m with
    | false =>
      go_wp2_with (go_at_call 47; (with_reducible refine (HMY.out _).mono ?_); rintro e w2 ⟨rfl, hb2⟩)
      go_ret2
      exact ⟨by rw [HR.out]; rfl, bB.trans (hb2.mono bB.size)⟩
    | true =>
      cases g with
      | true => cases hmg
      | false =>
        have hw : k < 0 ∨ 2 < k := by have h := HG.out; unfold wt at h; simp only [Bool.and_eq_false_iff, decide_eq_false_iff_not] at h; omega
        rcases hw with hw | hw
        all_goals
          try have hw2 : ¬ k < 0 := by omega
          go_wp2_with (go_at_call 47; (with_reducible refine (HMY.out _).mono ?_); rintro e w2 ⟨rfl, hb2⟩)
          go_ret2
          exact ⟨by rw [HR.out]; rfl, bB.trans (hb2.mono bB.size)⟩
  | true =>
    obtain ⟨rfl, rfl⟩ : m = true ∧ g = true := by simpa using hmg
    have hnum := mayC_num HM.out
    simp only at hnum
    obtain ⟨f1, f2, f3, f4⟩ := hnum
    have hw : 0 ≤ k ∧ k ≤ 2 := by have := HG.out; unfold wt at this; simpa using this
    by_cases hk0 : k = 0
    · subst hk0
      have HR := Lib.hid (scoreP_zero (c := ⟨x0, x1, x2, x3, x4, x5, x6, x7⟩) (t := l.t) HM.out)
      have hw1 : IntKind.i64.wrap (x4 - 1) = x4 - 1 := by rw [IntKind.wrap_i64]; omega
      obtain ⟨a, cap, b, off, hv, ha, hc⟩ := HU.out.r0
      injection hv with hv1 hv2 hv3
      have HN := Lib.hid hv2
      clear ha hc hv1 hv2 hv3
      go_enter Try.func21, Try.ntmps21
      go_upto_region 5 with (go_at_call 47; (with_reducible refine (HMY.out _).mono ?_); rintro e w2 ⟨rfl, hb2⟩)
      have y2 := yB.below hb2
      have x2' := xB.below hb2
      have q3 := y2.cell 3
      have q4 := x2'.cell 4
      simp at q3 q4
      have b2 := bB.trans (hb2.mono bB.size)
      go_big_quiet (fail)
      all_goals (try go_wp2_with fail)
      all_goals go_ret2
      all_goals exact ⟨by rw [HR.out, HN.out]; rfl, belowN b2 _⟩
    · obtain ⟨K, rfl⟩ : ∃ K : Nat, k = (K : Int) := ⟨k.toNat, by omega⟩
      have hK : K = 1 ∨ K = 2 := by omega
      have hKn : ¬ (K : Int) = 0 := by omega
      have hKb : ((K : Int) == 0) = false := by simpa using hKn
      have hKi : (0 : Int) ≤ (K : Int) ∧ (K : Int) < 4 := by omega
      have HR := Lib.hid (scoreP_up (c := ⟨x0, x1, x2, x3, x4, x5, x6, x7⟩) (t := l.t) HM.out hK)
      have hK4 : K < 4 := by omega
      obtain ⟨a, cap, b, off, hv, ha, hc⟩ := HU.out.lev hK4
      have HC := Lib.hid hc
      have hln := hgl K
      have HSK := Lib.hid (HSZ.out K)
      have HV := Lib.hid hv
      have hckB := box_lev yB hK4
      rw [hv] at hckB
      have HUA := Lib.hid hckB
      clear hv hc HU HSZ hgl hk0 hKn hw hckB
      have hk0 : ¬ (K : Int) < 0 := by omega
      have hk2 : ¬ (2 : Int) < (K : Int) := by omega
      go_enter Try.func21, Try.ntmps21
      go_upto_region 8 with (go_at_call 47; (with_reducible refine (HMY.out _).mono ?_); rintro e w2 ⟨rfl, hb2⟩)
      have b2 := bB.trans (hb2.mono bB.size)
      have HX2 := Lib.hid (xB.below hb2)
      have HY2 := Lib.hid (yB.below hb2)
      have HCK := Lib.hid ((hb2.cell (p := ⟨bl, 3 + K, none⟩) yB.lt).trans HUA.out)
      clear k0 k1 k2 k3 k4 k5 k6 k7 hA hB hbl HMY
      go_loopw [10, 9] (fun i s wr => ∃ q : Nat, q ≤ (l.t.getD K []).length ∧ i = .int .i64 (q : Int) ∧ s = .int .i64 (sizeP ((l.t.getD K []).take q)) ∧ Below w2.heap.size w2 wr) (fun i _ _ => (l.t.getD K []).length - (intOf i).toNat)
      case atStart => exact ⟨0, Nat.zero_le _, rfl, rfl, Below.refl _ _⟩
      case round =>
        obtain ⟨q, hq, rfl, rfl, hB⟩ := hrel
        obtain ⟨wo, rfl⟩ : ∃ wo : World, wo = wr := ⟨_, rfl⟩
        have b4 := b2.trans (hB.mono b2.size)
        have ck := (hB.cell (p := ⟨bl, 3 + K, none⟩) HY2.out.lt).trans HCK.out
        by_cases hlt : q < (l.t.getD K []).length
        · obtain ⟨rfl, hbl2⟩ := ha (by omega)
          obtain ⟨g0, g1, g2, g3, g4, g5⟩ := (HC.out q hlt).below b4 hbl2
          have hi3 : (0 : Int) ≤ (q : Int) ∧ (q : Int) < ((l.t.getD K []).length : Int) := by omega
          obtain ⟨s1, s2⟩ := HSK.out _ (List.getElem_mem hlt)
          obtain ⟨s3, s4⟩ := sizeP_take HSK.out q hq
          have HSN := Lib.hid (show sizeP ((l.t.getD K []).take (q + 1)) = sizeP ((l.t.getD K []).take q) + (l.t.getD K [])[q].siz by rw [List.take_succ_eq_append_getElem hlt, sizeP_snoc])
          generalize sizeP ((l.t.getD K []).take q) = S at *
          generalize (l.t.getD K [])[q] = x at *
          have hwr : IntKind.i64.wrap (S + x.siz) = S + x.siz := by rw [IntKind.wrap_i64]; omega
          go_wp2_with fail
          go_roundw
          case rel => exact ⟨q + 1, by omega, by go_num, by rw [HSN.out], hB⟩
          case measure => simp [intOf]; omega
        · obtain rfl : q = (l.t.getD K []).length := by omega
          rw [List.take_length] at *
          have hi3 : ¬ ((l.t.getD K []).length : Int) < ((l.t.getD K []).length : Int) := by omega
          generalize sizeP (l.t.getD K []) = S at *
          have x5' := HX2.out.below hB
          have q5 := x5'.cell 5
          simp at q5
          have hw4 : IntKind.i64.wrap (4 * x5) = 4 * x5 := by rw [IntKind.wrap_i64]; omega
          clear HSK HC ha hq
          rcases hK with rfl | rfl
          · go_wp2_with fail
            go_big_quiet (fail)
            all_goals (try go_wp2_with fail)
            all_goals go_ret2
            all_goals exact ⟨by rw [HR.out]; rfl, belowN b4 _⟩
          · go_wp2_with fail
            go_big_quiet (fail)
            all_goals (try go_wp2_with fail)
            all_goals go_ret2
            all_goals exact ⟨by rw [HR.out]; rfl, belowN b4 _⟩
end Cp
end Go.Proofs.Ytpldfdlnhgmnaaa

/-
  The document's Pick: its inner loop: the first table of a level that reaches beyond a key.
-/
namespace Go.Proofs.Ytpldfdlnhgmnaaa
open Go.RowKit
set_option linter.unusedSimpArgs false
set_option linter.unusedVariables false
namespace Cp
open Op (bytesLess)
open Mf (Tbl Lv lvV LvIn Tbs TAt TblIn uA box_lev tcs tbs_of_own Post wp_post loopsOf inLoop)

noncomputable def pkLoop : Code := (((Try.f23.body.map loopsOf).getD [])[0]?).getD .skip

noncomputable def pkInner (m : Nat) : Code := (((((Try.f23.body.map loopsOf).getD [])[0]?.map inLoop).getD [])[m]?).getD .skip

set_option maxRecDepth 1000000 in
set_option maxHeartbeats 40000000 in
theorem pk_find (R : Act → World → Prop) (X : Nat → Act → World → Prop) (l : Lv) (k : Nat) (bl ba : Nat) (a0 a1 a2 a3 : Option Addr) (n0 n1 n2 n3 c0 c1 c2 c3 : Nat) (key : List UInt8) (W0 : World) {v0 v1 v2 v3 v6 v7 v9 v10 v11 v13 v14 v15 v16 v17 v18 v19 v20 v21 v22 v23 v24 v25 v26 v27 v28 v29 v30 v31 v32 v33 v34 v35 v36 v37 v38 v39 v40 v41 v42 v43 v44 v45 v46 v47 v48 v49 v50 v51 v52 v53 v54 v55 v56 v57 v58 v59 v60 v61 v62 v63 v64 v65 v66 v67 v68 v69 v70 v71 v72 v73 v74 v75 v76 v77 v78 v79 v80 v81 v82 v83 v84 v85 v86 v87 v88 v89 v90 v91 v92 v93 v94 v95 v96 v97 v98 v99 v100 v101 v102 v103 v104 v105 v106 v107 v108 v109 v110 v111 v112 v113 v114 v115 v116 v117 v118 v119 v120 v121 v122 v123 v124 v125 v126 v127 : Value}
    (hk : k < 4) (HL : Hid (LvIn W0.heap.size W0 l (.slice a0 n0 c0) (.slice a1 n1 c1) (.slice a2 n2 c2) (.slice a3 n3 c3)))
    (HX : Hid (Ob.Obj W0 bl 27 [.int .u64 l.next, .int .u64 l.seq, .int .u64 l.log, .slice a0 n0 c0, .slice a1 n1 c1, .slice a2 n2 c2, .slice a3 n3 c3])) (hz : ba < W0.heap.size) (HA : Hid (W0.cell? ⟨ba, k, none⟩ = some (.string (Cd.bs key))))
    (HEX : Hid (∀ (x40 x41 x42 x43 x44 x45 x46 x47 x48 x49 x50 x51 x52 x53 x54 x55 x56 x57 x58 x59 x60 x61 x62 : Value) (q : Nat) (W' : World), Below W0.heap.size W0 W' → q ≤ (l.t.getD k []).length → ((l.t.getD k []).takeWhile fun x => !bytesLess key x.hi).length = q → X 2 ⟨#[v0, v1, v2, v3, .pointer (some ⟨bl, 0, none⟩), .pointer (some ⟨ba, 0, none⟩), v6, v7, .int .i64 (k : Int), v9, v10, v11, .int .i64 (q : Int), v13, v14, v15, v16, v17, v18, v19, v20, v21, v22, v23, v24, v25, v26, v27, v28, v29, v30, v31, v32, v33, v34, v35, v36, v37, v38, v39, x40, x41, x42, x43, x44, x45, x46, x47, x48, x49, x50, x51, x52, x53, x54, x55, x56, x57, x58, x59, x60, x61, x62, v63, v64, v65, v66, v67, v68, v69, v70, v71, v72, v73, v74, v75, v76, v77, v78, v79, v80, v81, v82, v83, v84, v85, v86, v87, v88, v89, v90, v91, v92, v93, v94, v95, v96, v97, v98, v99, v100, v101, v102, v103, v104, v105, v106, v107, v108, v109, v110, v111, v112, v113, v114, v115, v116, v117, v118, v119, v120, v121, v122, v123, v124, v125, v126, v127], []⟩ W')) :
    Code.wp Try.prog (pkInner 0) (Post R X) ⟨#[v0, v1, v2, v3, .pointer (some ⟨bl, 0, none⟩), .pointer (some ⟨ba, 0, none⟩), v6, v7, .int .i64 (k : Int), v9, v10, v11, .int .i64 0, v13, v14, v15, v16, v17, v18, v19, v20, v21, v22, v23, v24, v25, v26, v27, v28, v29, v30, v31, v32, v33, v34, v35, v36, v37, v38, v39, v40, v41, v42, v43, v44, v45, v46, v47, v48, v49, v50, v51, v52, v53, v54, v55, v56, v57, v58, v59, v60, v61, v62, v63, v64, v65, v66, v67, v68, v69, v70, v71, v72, v73, v74, v75, v76, v77, v78, v79, v80, v81, v82, v83, v84, v85, v86, v87, v88, v89, v90, v91, v92, v93, v94, v95, v96, v97, v98, v99, v100, v101, v102, v103, v104, v105, v106, v107, v108, v109, v110, v111, v112, v113, v114, v115, v116, v117, v118, v119, v120, v121, v122, v123, v124, v125, v126, v127], []⟩ W0 := by
  dsimp only at HEX ⊢
  conv => arg 2; whnf
  have hk4 : (0 : Int) ≤ (k : Int) ∧ (k : Int) < 4 := by omega
  obtain ⟨a, cap, b, off, hv, ha, hc⟩ := HL.out.lev hk
  have hlen := Mf.getD_le HL.out.len k
  obtain ⟨L, hLe⟩ : ∃ L, l.t.getD k [] = L := ⟨_, rfl⟩
  rw [hLe] at hv ha hlen HEX
  have HC := Lib.hid (show ∀ j (h : j < L.length), TAt W0 b (off + j * 6) L[j] by subst hLe; exact hc)
  clear hc hLe
  go_loopw [12] (fun i wr => ∃ q : Nat, q ≤ L.length ∧ i = .int .i64 (q : Int) ∧ Hid (∀ y ∈ L.take q, (!bytesLess key y.hi) = true) ∧ Below W0.heap.size W0 wr) (fun i _ => L.length - (intOf i).toNat)
  case atStart => exact ⟨0, Nat.zero_le _, rfl, fun y hy => by simp at hy, Below.refl _ _⟩
  case round =>
    obtain ⟨q, hq, rfl, hall, hB⟩ := hrel
    obtain ⟨wo, rfl⟩ : ∃ wo : World, wo = wr := ⟨_, rfl⟩
    have x5 := HX.out.below hB
    have ck := box_lev x5 hk
    rw [hv] at ck
    have ca := (hB.cell (p := ⟨ba, k, none⟩) hz).trans HA.out
    have hblz := x5.lt
    have hbaz : ba < wo.heap.size := Nat.lt_of_lt_of_le hz hB.size
    have HB := Lib.hid hB
    have hN : ∀ n, Below wo.heap.size wo (wo.drewN n) := fun n => by have h := Below.refl wo.heap.size wo; exact ⟨h.os, h.tape, h.output, h.size, h.block⟩
    by_cases hlt : q < L.length
    · obtain ⟨rfl, hbl⟩ := ha (by omega)
      obtain ⟨g0, g1, g2, g3, g4, g5⟩ := (HC.out q hlt).below hB hbl
      have hi3 : (0 : Int) ≤ (q : Int) ∧ (q : Int) < (L.length : Int) := by omega
      have hbz : b < wo.heap.size := Nat.lt_of_lt_of_le hbl hB.size
      have HTK := Lib.hid (List.take_succ_eq_append_getElem hlt)
      have HTW := Lib.hid (fun h => tw_eq (p := fun x : Tbl => !bytesLess key x.hi) L q hq hall.out h)
      generalize hy : L[q] = y at *
      obtain ⟨d, hd⟩ : ∃ d, bytesLess key y.hi = d := ⟨_, rfl⟩
      have HD := Lib.hid hd
      have HY := Lib.hid hy
      obtain ⟨yn, yl, ys, yc, ylo, yhi⟩ := y
      simp only at g5 hd
      have hk1 : (Cd.bs yhi).toList = yhi := by rw [ByteArray.toList_mk]
      have hk2 : (Cd.bs key).toList = key := by rw [ByteArray.toList_mk]
      have hle : (bytesLess yhi key || yhi == key) = !d := by rw [Mf.bl_le, hd]
      clear hd hB x5 hy g0 g1 g2 g3 g4
      go_upto_region 10 with fail
      go_cut [60] from 40 to 60 (fun r wx => r = .bool (!d) ∧ Below wo.heap.size wo wx)
      case first =>
        go_big_quiet (fail)
        all_goals (try go_wp2_with fail)
        all_goals go_meet
        all_goals refine ⟨?_, hN _⟩
        all_goals (first | rfl | simp [hle])
      case rest =>
        obtain ⟨rfl, hb9⟩ := hcut
        have hB9 := HB.out.trans (hb9.mono HB.out.size)
        clear ck ca g5
        cases d with
        | true =>
          have HQ := Lib.hid (HTW.out (fun h => by rw [HY.out]; simpa using HD.out))
          go_wp2_with fail
          exact HEX.out _ _ _ _ _ _ _ _ _ _ _ _ _ _ _ _ _ _ _ _ _ _ _ q _ hB9 hq HQ.out
        | false =>
          have HALL : Hid (∀ y ∈ L.take (q + 1), (!bytesLess key y.hi) = true) := fun y hy => by
            rw [HTK.out] at hy
            rcases List.mem_append.1 hy with hy | hy
            · exact hall.out y hy
            · simp at hy; subst hy; simpa using HD.out
          go_wp2_with fail
          go_roundw
          case rel => exact ⟨q + 1, by omega, by go_num, HALL, hB9⟩
          case measure => simp [intOf]; omega
    · obtain rfl : q = L.length := by omega
      have HQ := Lib.hid (tw_eq (p := fun x : Tbl => !bytesLess key x.hi) L L.length (Nat.le_refl _) hall.out (fun h => absurd h (Nat.lt_irrefl _)))
      have hi3 : ¬ (L.length : Int) < (L.length : Int) := by omega
      clear x5 hB
      go_upto_region 10 with fail
      go_cut [60] from 40 to 60 (fun r wx => r = .bool false ∧ Below wo.heap.size wo wx)
      case first =>
        go_big_quiet (fail)
        all_goals (try go_wp2_with fail)
        all_goals (try go_meet)
        all_goals exact ⟨rfl, hN _⟩
      case rest =>
        obtain ⟨rfl, hb9⟩ := hcut
        clear ck ca
        go_wp2_with fail
        exact HEX.out _ _ _ _ _ _ _ _ _ _ _ _ _ _ _ _ _ _ _ _ _ _ _ L.length _ (HB.out.trans (hb9.mono HB.out.size)) (Nat.le_refl _) HQ.out
end Cp
end Go.Proofs.Ytpldfdlnhgmnaaa

/-
  The document's Pick: the job in the making; its last loop: does a deeper level have what the job's tables span?
-/
namespace Go.Proofs.Ytpldfdlnhgmnaaa
open Go.RowKit
set_option linter.unusedSimpArgs false
set_option linter.unusedVariables false
namespace Cp
open Op (bytesLess)
open Mf (Tbl Lv lvV LvIn Tbs TAt TblIn uA box_lev tcs tbs_of_own Post wp_post loopsOf inLoop)

/-- the job in the making: its box, its two rows, the Live beside it -/
structure PkS (w : World) (bl br bj : Nat) (l : Lv) (a0 a1 a2 a3 : Option Addr) (n0 n1 n2 n3 c0 c1 c2 c3 : Nat) (k : Nat) (x y : Value) (XL YL : List Tbl) (z : Bool) (W : World) : Prop where
  live : Ob.Obj W bl 27 [.int .u64 l.next, .int .u64 l.seq, .int .u64 l.log, .slice a0 n0 c0, .slice a1 n1 c1, .slice a2 n2 c2, .slice a3 n3 c3]
  res : Ob.Obj W br 56 [.int .i64 0, .slice none 0 0, .slice none 0 0, .bool false]
  job : Ob.Obj W bj 56 [.int .i64 (k : Int), x, y, .bool z]
  rx : W.ownsRow (bj + 1) 38 6 x XL.length (tcs XL)
  ry : W.ownsRow (bj + 1) 38 6 y YL.length (tcs YL)
  bel : Below w.heap.size w W
  ord : bl < bj ∧ br < bj ∧ w.heap.size ≤ bl ∧ w.heap.size ≤ br
variable {w W W2 : World} {bl br bj : Nat} {l : Lv} {a0 a1 a2 a3 : Option Addr} {n0 n1 n2 n3 c0 c1 c2 c3 : Nat} {k : Nat} {x y : Value} {XL YL : List Tbl} {z : Bool}
theorem PkS.below (h : PkS w bl br bj l a0 a1 a2 a3 n0 n1 n2 n3 c0 c1 c2 c3 k x y XL YL z W) (hb : Below W.heap.size W W2) : PkS w bl br bj l a0 a1 a2 a3 n0 n1 n2 n3 c0 c1 c2 c3 k x y XL YL z W2 :=
  ⟨h.live.below hb, h.res.below hb, h.job.below hb, own_below h.rx hb, own_below h.ry hb, h.bel.trans (hb.mono h.bel.size), h.ord⟩
theorem other1 {W : World} {b r o : Nat} {t : TypeId} {xs : List Value} (h : Ob.Obj W r t xs) (hne : r ≠ b) (y : Value) : Ob.Obj (W.setCell ⟨b, o, none⟩ y) r t xs :=
  h.kept (T := fun x => x ≠ b) (Sq.Kept.setCell (T := fun x => x ≠ b) (p := ⟨b, o, none⟩) W y (by simp)) hne
theorem row1 {W : World} {b B o : Nat} {v : Value} {L : List Tbl} (h : W.ownsRow B 38 6 v L.length (tcs L)) (hb : b < B) (y : Value) : (W.setCell ⟨b, o, none⟩ y).ownsRow B 38 6 v L.length (tcs L) :=
  Sq.row_kept h (Sq.Kept.setCell (T := fun x => x ≠ b) (p := ⟨b, o, none⟩) W y (by simp)) (fun r hr => by have := (Ob.row_lt h hr).1; omega)
theorem PkS.setX (h : PkS w bl br bj l a0 a1 a2 a3 n0 n1 n2 n3 c0 c1 c2 c3 k x y XL YL z W) {v : Value} {M : List Tbl} (hv : W.ownsRow (bj + 1) 38 6 v M.length (tcs M)) : PkS w bl br bj l a0 a1 a2 a3 n0 n1 n2 n3 c0 c1 c2 c3 k v y M YL z (W.setCell ⟨bj, 1, none⟩ v) := by
  have ho := h.ord
  exact ⟨other1 h.live (by omega) v, other1 h.res (by omega) v, h.job.set 1 v, row1 hv (by omega) v, row1 h.ry (by omega) v, h.bel.setCell (p := ⟨bj, 1, none⟩) (by show _ ≤ bj; omega) v, ho⟩
theorem PkS.setY (h : PkS w bl br bj l a0 a1 a2 a3 n0 n1 n2 n3 c0 c1 c2 c3 k x y XL YL z W) {v : Value} {M : List Tbl} (hv : W.ownsRow (bj + 1) 38 6 v M.length (tcs M)) : PkS w bl br bj l a0 a1 a2 a3 n0 n1 n2 n3 c0 c1 c2 c3 k x v XL M z (W.setCell ⟨bj, 2, none⟩ v) := by
  have ho := h.ord
  exact ⟨other1 h.live (by omega) v, other1 h.res (by omega) v, h.job.set 2 v, row1 h.rx (by omega) v, row1 hv (by omega) v, h.bel.setCell (p := ⟨bj, 2, none⟩) (by show _ ≤ bj; omega) v, ho⟩
theorem PkS.setZ (h : PkS w bl br bj l a0 a1 a2 a3 n0 n1 n2 n3 c0 c1 c2 c3 k x y XL YL z W) (b : Bool) : PkS w bl br bj l a0 a1 a2 a3 n0 n1 n2 n3 c0 c1 c2 c3 k x y XL YL b (W.setCell ⟨bj, 3, none⟩ (.bool b)) := by
  have ho := h.ord
  exact ⟨other1 h.live (by omega) _, other1 h.res (by omega) _, h.job.set 3 (.bool b), row1 h.rx (by omega) _, row1 h.ry (by omega) _, h.bel.setCell (p := ⟨bj, 3, none⟩) (by show _ ≤ bj; omega) _, ho⟩
/-- how far the deeper levels have been looked at: none has such a table -/
def botTo (t : List (List Tbl)) (lo hi : List UInt8) (k d : Nat) : Bool := ((t.take d).drop (k + 2)).all fun r => (overP lo hi r).isEmpty
theorem botTo_next {t : List (List Tbl)} {lo hi : List UInt8} {k d : Nat} (ht : t.length = 4) (hd : d < 4) (hk : k + 2 ≤ d) : botTo t lo hi k (d + 1) = (botTo t lo hi k d && (overP lo hi (t.getD d [])).isEmpty) := by
  unfold botTo
  rw [List.take_succ_eq_append_getElem (by omega), List.drop_append_of_le_length (by rw [List.length_take]; omega), List.all_append, List.getD_eq_getElem?_getD, List.getElem?_eq_getElem (by omega)]
  simp
theorem botTo_start (t : List (List Tbl)) (lo hi : List UInt8) (k : Nat) : botTo t lo hi k (k + 2) = true := by
  unfold botTo
  rw [List.drop_take]
  simp
theorem over_flat (lo hi : List UInt8) : ∀ L : List (List Tbl), (overP lo hi L.flatten).isEmpty = L.all fun r => (overP lo hi r).isEmpty
  | [] => rfl
  | r :: R => by
    have ih := over_flat lo hi R
    unfold overP at ih ⊢
    rw [List.flatten_cons, List.filter_append, List.all_cons, ← ih]
    cases List.filter (fun x => !bytesLess x.hi lo && !bytesLess hi x.lo) r <;> simp
theorem botTo_end {t : List (List Tbl)} {lo hi : List UInt8} {k : Nat} (ht : t.length = 4) : botTo t lo hi k 4 = (overP lo hi (t.drop (k + 2)).flatten).isEmpty := by
  unfold botTo
  rw [List.take_of_length_le (by omega), over_flat]

set_option maxRecDepth 1000000 in
set_option maxHeartbeats 40000000 in
theorem pk_deep (R : Act → World → Prop) (X : Nat → Act → World → Prop) (l : Lv) (k : Nat) (d0 : Int) (bl br bj : Nat) (a0 a1 a2 a3 : Option Addr) (n0 n1 n2 n3 c0 c1 c2 c3 : Nat) (x y : Value) (XL YL : List Tbl) (lo hi : List UInt8) (w W0 : World) {v0 v1 v2 v3 v5 v6 v7 v8 v9 v10 v12 v16 v17 v18 v19 v20 v21 v22 v23 v24 v25 v26 v27 v28 v29 v30 v31 v32 v33 v34 v35 v36 v37 v38 v39 v40 v41 v42 v43 v44 v45 v46 v47 v48 v49 v50 v51 v52 v53 v54 v55 v56 v57 v58 v59 v60 v61 v62 v63 v64 v65 v66 v67 v68 v69 v70 v71 v72 v73 v74 v75 v76 v77 v78 v79 v80 v81 v82 v83 v84 v85 v86 v87 v88 v89 v90 v91 v92 v93 v94 v95 v96 v97 v98 v99 v100 v101 v102 v103 v104 v105 v106 v107 v108 v109 v110 v111 v112 v113 v114 v115 v116 v117 v118 v119 v120 v121 v122 v123 v124 v125 v126 v127 : Value}
    (hk : k < 3) (hd0 : d0 = (k : Int) + 2) (HL : Hid (∀ W, Below w.heap.size w W → LvIn W.heap.size W l (.slice a0 n0 c0) (.slice a1 n1 c1) (.slice a2 n2 c2) (.slice a3 n3 c3)))
    (HS : Hid (PkS w bl br bj l a0 a1 a2 a3 n0 n1 n2 n3 c0 c1 c2 c3 k x y XL YL true W0))
    (HEX : Hid (∀ (x15 x16 x107 x108 x109 x110 x111 x112 x113 x114 x115 x116 x117 x118 x119 x120 x121 x122 x123 x124 x125 : Value) (W' : World), PkS w bl br bj l a0 a1 a2 a3 n0 n1 n2 n3 c0 c1 c2 c3 k x y XL YL (overP lo hi (l.t.drop (k + 2)).flatten).isEmpty W' → X 4 ⟨#[v0, v1, v2, v3, .pointer (some ⟨bl, 0, none⟩), v5, v6, v7, v8, v9, v10, .pointer (some ⟨bj, 0, none⟩), v12, .string (Cd.bs lo), .string (Cd.bs hi), x15, x16, v17, v18, v19, v20, v21, v22, v23, v24, v25, v26, v27, v28, v29, v30, v31, v32, v33, v34, v35, v36, v37, v38, v39, v40, v41, v42, v43, v44, v45, v46, v47, v48, v49, v50, v51, v52, v53, v54, v55, v56, v57, v58, v59, v60, v61, v62, v63, v64, v65, v66, v67, v68, v69, v70, v71, v72, v73, v74, v75, v76, v77, v78, v79, v80, v81, v82, v83, v84, v85, v86, v87, v88, v89, v90, v91, v92, v93, v94, v95, v96, v97, v98, v99, v100, v101, v102, v103, v104, v105, v106, x107, x108, x109, x110, x111, x112, x113, x114, x115, x116, x117, x118, x119, x120, x121, x122, x123, x124, x125, v126, v127], []⟩ W')) :
    Code.wp Try.prog (pkInner 1) (Post R X) ⟨#[v0, v1, v2, v3, .pointer (some ⟨bl, 0, none⟩), v5, v6, v7, v8, v9, v10, .pointer (some ⟨bj, 0, none⟩), v12, .string (Cd.bs lo), .string (Cd.bs hi), .int .i64 d0, v16, v17, v18, v19, v20, v21, v22, v23, v24, v25, v26, v27, v28, v29, v30, v31, v32, v33, v34, v35, v36, v37, v38, v39, v40, v41, v42, v43, v44, v45, v46, v47, v48, v49, v50, v51, v52, v53, v54, v55, v56, v57, v58, v59, v60, v61, v62, v63, v64, v65, v66, v67, v68, v69, v70, v71, v72, v73, v74, v75, v76, v77, v78, v79, v80, v81, v82, v83, v84, v85, v86, v87, v88, v89, v90, v91, v92, v93, v94, v95, v96, v97, v98, v99, v100, v101, v102, v103, v104, v105, v106, v107, v108, v109, v110, v111, v112, v113, v114, v115, v116, v117, v118, v119, v120, v121, v122, v123, v124, v125, v126, v127], []⟩ W0 := by
  dsimp only at HEX ⊢
  conv => arg 2; whnf
  have ht4 := (HL.out _ HS.out.bel).four
  have HOV := Lib.hid (fun (v : Value) (L : List Tbl) (W : World) (hV : Tbs W.heap.size W v L) (hL : L.length ≤ 4194304) => overlappingR_any v L lo hi W hV hL)
  go_loopw [15] (fun i wr => ∃ d : Nat, k + 2 ≤ d ∧ d ≤ 4 ∧ i = .int .i64 (d : Int) ∧ Hid (PkS w bl br bj l a0 a1 a2 a3 n0 n1 n2 n3 c0 c1 c2 c3 k x y XL YL (botTo l.t lo hi k d) wr)) (fun i _ => 4 - (intOf i).toNat)
  case atStart => exact ⟨k + 2, Nat.le_refl _, by omega, by rw [hd0]; rfl, by rw [botTo_start]; exact HS⟩
  case round =>
    clear HS
    obtain ⟨d, hd1, hd2, rfl, HS⟩ := hrel
    obtain ⟨wo, rfl⟩ : ∃ wo : World, wo = wr := ⟨_, rfl⟩
    by_cases hlt : d < 4
    · have hi1 : (d : Int) < 4 := by omega
      have hi2 : (0 : Int) ≤ (d : Int) ∧ (d : Int) < 4 := by omega
      have HLW := Lib.hid (HL.out _ HS.out.bel)
      have ck := box_lev HS.out.live hlt
      have HTB := Lib.hid (HLW.out.lev hlt)
      have hlen := Mf.getD_le HLW.out.len d
      have HNX := Lib.hid (botTo_next (lo := lo) (hi := hi) ht4 hlt hd1)
      generalize uA (.slice a0 n0 c0) (.slice a1 n1 c1) (.slice a2 n2 c2) (.slice a3 n3 c3) d = u at *
      obtain ⟨au, cu, hu⟩ : ∃ a c, u = .slice a (l.t.getD d []).length c := by obtain ⟨a, c, _, _, h, _⟩ := HTB.out; exact ⟨a, c, h⟩
      obtain ⟨nD, hnD⟩ : ∃ n, (l.t.getD d []).length = n := ⟨_, rfl⟩
      rw [hnD] at hu
      subst hu
      have HC := Lib.hid (HOV.out _ _ _ HTB.out (by omega))
      obtain ⟨r, hr⟩ : ∃ r, l.t.getD d [] = r := ⟨_, rfl⟩
      rw [hr] at HC HNX
      obtain ⟨M, hM⟩ : ∃ M, overP lo hi r = M := ⟨_, rfl⟩
      rw [hM] at HC HNX
      clear hr hM HTB HLW hnD hlen
      go_upto_region 22 with fail
      go_upto_region 23 with (go_at_call 50; (with_reducible refine HC.out.mono ?_); rintro e w7 ⟨rv, rfl, hO7, hb7⟩; obtain ⟨ar, cr, rfl, _⟩ := Sq.row_cases hO7)
      have HS7 := Lib.hid (HS.out.below hb7)
      have hj := HS7.out.job
      have j3 := hj.cell 3
      have f3 := hj.frozen 3
      simp at j3
      have hM0 : ((M.length : Int) == 0) = M.isEmpty := by
        cases M with
        | nil => rfl
        | cons a r => simp; omega
      obtain ⟨z, hz⟩ : ∃ z, botTo l.t lo hi k d = z := ⟨_, rfl⟩
      rw [hz] at j3 HS7 HNX
      clear hz hj HS ck hO7 hb7 HC
      generalize M.isEmpty = m at *
      cases z
      all_goals
        go_wp2_with fail
        go_roundw
        case rel => exact ⟨d + 1, by omega, by omega, by go_num, by rw [HNX.out]; exact HS7.out.setZ _⟩
        case measure => simp [intOf]; omega
    · obtain rfl : d = 4 := by omega
      have HE := Lib.hid (show PkS w bl br bj l a0 a1 a2 a3 n0 n1 n2 n3 c0 c1 c2 c3 k x y XL YL (overP lo hi (l.t.drop (k + 2)).flatten).isEmpty wo by rw [← botTo_end ht4]; exact HS.out)
      clear HS
      go_wp2_with fail
      exact HEX.out _ _ _ _ _ _ _ _ _ _ _ _ _ _ _ _ _ _ _ _ _ _ HE.out
end Cp
end Go.Proofs.Ytpldfdlnhgmnaaa

/-
  compact: job: the compaction of a level that has a table at least.
-/
namespace Go.Proofs.Ytpldfdlnhgmnaaa
open Go.RowKit
set_option linter.unusedSimpArgs false
set_option linter.unusedVariables false
namespace Cp
open Op (bytesLess)
open Mf (Tbl Lv lvV LvIn Tbs TAt TblIn uA box_lev tcs tbs_of_own)
open Md10 (setCell_self)
/-- a slice with room, and none where it lies nowhere -/
def FineV (v : Value) : Prop := ∀ a n c, v = .slice a n c → n ≤ c ∧ c ≤ maxLen ∧ (a = none → c = 0)
theorem fine_of_row {W : World} {B : Nat} {v : Value} {L : List Tbl} (h : W.ownsRow B 38 6 v L.length (tcs L)) : FineV v := by
  intro a n c e
  obtain ⟨a2, cap, fb, h1, h2, h3, h4⟩ := Gn.row_at h
  rw [h1] at e
  injection e with e1 e2 e3
  subst e1 e2 e3
  refine ⟨h2, h3, fun h5 => ?_⟩
  rcases h.2 with ⟨h6, _⟩ | ⟨g, cap2, cur, h6, _⟩
  · rw [h1] at h6; injection h6
  · rw [h1, h5] at h6; injection h6 with h7 _ _; cases h7
theorem srcP_mem {t : List (List Tbl)} {k : Nat} {a : List UInt8} {x : Tbl} (h : x ∈ srcP t k a) : ∃ j, x ∈ t.getD j [] := by
  unfold srcP at h
  split at h
  · exact ⟨0, h⟩
  · exact ⟨k, List.mem_of_mem_drop (List.mem_of_mem_take h)⟩
def RowOut (B : Nat) (L : List Tbl) (W0 : World) (r : Value) (W : World) : Prop := W.ownsRow B 38 6 r L.length (tcs L) ∧ Below W0.heap.size W0 W

set_option maxRecDepth 1000000 in
set_option maxHeartbeats 40000000 in
theorem job0_any (l : Lv) (a0 a1 a2 a3 : Option Addr) (n0 n1 n2 n3 c0 c1 c2 c3 : Nat) (key : List UInt8) (w : World) (hL : LvIn w.heap.size w l (.slice a0 n0 c0) (.slice a1 n1 c1) (.slice a2 n2 c2) (.slice a3 n3 c3)) (HF : Hid (FineV (.slice a0 n0 c0) ∧ FineV (.slice a1 n1 c1) ∧ FineV (.slice a2 n2 c2) ∧ FineV (.slice a3 n3 c3))) (hpos : 0 < (l.t.getD 0 []).length) (HIN : Hid (∀ x, (∃ j, x ∈ l.t.getD j []) → TblIn x)) :
    Calls Try.prog 48 #[lvV l (.slice a0 n0 c0) (.slice a1 n1 c1) (.slice a2 n2 c2) (.slice a3 n3 c3), .int .i64 0, .string (Cd.bs key)] w fun e w' => ∃ x y, e = .returned (jobV (jobP l.t 0 key) x y) ∧ w'.ownsRow w.heap.size 38 6 x (jobP l.t 0 key).src.length (tcs (jobP l.t 0 key).src) ∧ w'.ownsRow w.heap.size 38 6 y (jobP l.t 0 key).dst.length (tcs (jobP l.t 0 key).dst) ∧ Below w.heap.size w w' := by
  have HL := Lib.hid (fun W (h : Below w.heap.size w W) => hL.grow h h.size)
  have hlens := hL.len
  have ht4 := hL.four
  obtain ⟨wA, hA⟩ : ∃ wA, w.alloc (.cells #[.int .u64 l.next, .int .u64 l.seq, .int .u64 l.log, .slice a0 n0 c0, .slice a1 n1 c1, .slice a2 n2 c2, .slice a3 n3 c3] 27) = wA := ⟨_, rfl⟩
  have bA : Below w.heap.size w wA := by rw [← hA]; exact (Below.refl _ _).alloc (Nat.le_refl _) _
  have yA : Ob.Obj wA w.heap.size 27 [.int .u64 l.next, .int .u64 l.seq, .int .u64 l.log, .slice a0 n0 c0, .slice a1 n1 c1, .slice a2 n2 c2, .slice a3 n3 c3] := by rw [← hA]; exact Ob.Obj.new w _ [.int .u64 l.next, .int .u64 l.seq, .int .u64 l.log, .slice a0 n0 c0, .slice a1 n1 c1, .slice a2 n2 c2, .slice a3 n3 c3]
  obtain ⟨br, hbr⟩ : ∃ j, wA.heap.size = j := ⟨_, rfl⟩
  obtain ⟨W, hB⟩ : ∃ wB, wA.alloc (.cells #[.int .i64 0, .slice none 0 0, .slice none 0 0, .bool false] 56) = wB := ⟨_, rfl⟩
  have HBW := Lib.hid (show Below w.heap.size w W by rw [← hB]; exact bA.alloc bA.size _)
  have BL := Lib.hid (show Ob.Obj W w.heap.size 27 [.int .u64 l.next, .int .u64 l.seq, .int .u64 l.log, .slice a0 n0 c0, .slice a1 n1 c1, .slice a2 n2 c2, .slice a3 n3 c3] by rw [← hB]; exact yA.alloc _)
  have BR := Lib.hid (show Ob.Obj W br 56 [.int .i64 0, .slice none 0 0, .slice none 0 0, .bool false] by rw [← hB, ← hbr]; exact Ob.Obj.new wA _ [.int .i64 0, .slice none 0 0, .slice none 0 0, .bool false])
  have hord : w.heap.size < br := by have := yA.lt; omega
  clear hL bA yA
  unfold lvV
  obtain ⟨af, nf, cf, hfe⟩ : ∃ a n c, Value.slice a0 n0 c0 = .slice a n c := ⟨_, _, _, rfl⟩
  have HTF := Lib.hid (show ∀ W, Below w.heap.size w W → Tbs W.heap.size W (.slice a0 n0 c0) (srcP l.t 0 key) from fun W h => (HL.out W h).r0)
  have HFF := Lib.hid HF.out.1
  rw [hfe] at HTF HFF
  obtain ⟨XL, hXL⟩ : ∃ XL, srcP l.t 0 key = XL := ⟨_, rfl⟩
  rw [hXL] at HTF
  have HXL := Lib.hid hXL
  have k3 := BL.out.cell 3
  simp at k3
  rw [hfe] at k3
  clear hXL hfe
  have hblz0 := BL.out.lt
  go_enter Try.func48, Try.ntmps48
  go_upto_region 3 with fail
  clear hA hB hbr k3
  have hx1 : 0 < XL.length := by rw [← HXL.out]; exact srcP_pos _ hpos
  have hx2 : XL.length ≤ 1048576 := by rw [← HXL.out]; exact srcP_len (by decide) hlens 0 _
  have hxin : Hid (∀ x ∈ XL, TblIn x) := fun x h => HIN.out x (by rw [← HXL.out] at h; exact srcP_mem h)
  obtain ⟨sp, hsp⟩ : ∃ sp, spanP XL = sp := ⟨_, rfl⟩
  have HSP := Lib.hid hsp
  have HSO := Lib.hid (fun W (h : Below w.heap.size w W) => spanOf_any (.slice af nf cf) XL W (HTF.out _ h) (fun a n c e => ⟨(HFF.out a n c e).1, (HFF.out a n c e).2.1⟩) (by omega) hx1)
  rw [hsp] at HSO
  obtain ⟨lo, hi⟩ := sp
  have HTO := Lib.hid (fun W (h : Below w.heap.size w W) => touched_any (.slice a1 n1 c1) (l.t.getD 1 []) lo hi W (HL.out _ h).r1 (by have := Mf.getD_le hlens 1; omega))
  obtain ⟨YL, hYL⟩ : ∃ YL, overP lo hi (l.t.getD 1 []) = YL := ⟨_, rfl⟩
  have hy2 : YL.length ≤ 1048576 := by rw [← hYL]; exact Nat.le_trans (overP_len _ _ _) (Mf.getD_le hlens 1)
  have hyin : Hid (∀ x ∈ YL, TblIn x) := fun x h => HIN.out x (by rw [← hYL] at h; exact ⟨1, (List.mem_filter.1 h).1⟩)
  rw [hYL] at HTO
  have HYL := Lib.hid hYL
  have hblz := BL.out.lt
  have k4 := BL.out.cell 4
  simp at k4
  clear hsp hYL
  go_upto_region 4 with fail
  go_cut [8] from 20 to 27 (fun r wx => RowOut W.heap.size YL W r wx)
  case first =>
    go_region_with (first
      | (go_at_call 77; (with_reducible refine (HSO.out _ HBW.out.drew).mono ?_); rintro e w1 ⟨rfl, hb1⟩; have hb1w : Below W.heap.size W w1 := (by exact (Below.refl _ _).drew.trans hb1); have HB1 := Lib.hid (HBW.out.trans (hb1w.mono HBW.out.size)); have k1 := (BL.out.below hb1w).cell 4; simp at k1)
      | (go_at_call 78; (with_reducible refine (HTO.out _ HB1.out).mono ?_); rintro e w2 ⟨rv, rfl, hO2, hb2⟩; have HO2 := Lib.hid (show RowOut W.heap.size YL W rv w2 from ⟨Mf.lowerR hO2 hb1w.size, hb1w.trans (hb2.mono hb1w.size)⟩); clear hO2 hb2))
    all_goals (try go_wp2_with fail)
    all_goals go_meet
    all_goals exact HO2.out
  case rest =>
    obtain ⟨hO4, hb4⟩ := hcut
    obtain ⟨a8, c8, hr8, _⟩ := Sq.row_cases hO4
    subst hr8
    have HO4 := Lib.hid hO4
    have HB4 := Lib.hid (HBW.out.trans (hb4.mono HBW.out.size))
    have HW4 := Lib.hid hb4
    have BL4 := Lib.hid (BL.out.below hb4)
    have BR4 := Lib.hid (BR.out.below hb4)
    clear hO4 hb4 k4 HTO HSO
    obtain ⟨w5, hw5⟩ : ∃ w5, wc.alloc (.cells #[.slice af nf cf, .slice a8 YL.length c8] 24) = w5 := ⟨_, rfl⟩
    have HB5 := Lib.hid (show Below w.heap.size w w5 by rw [← hw5]; exact HB4.out.alloc HB4.out.size _)
    have hw45 : Below wc.heap.size wc w5 := by rw [← hw5]; exact (Below.refl _ _).alloc (Nat.le_refl _) _
    have hO5 := Ob.Obj.new wc 24 [.slice af nf cf, .slice a8 YL.length c8]
    change Ob.Obj (wc.alloc (.cells #[.slice af nf cf, .slice a8 YL.length c8] 24)) wc.heap.size 24 [.slice af nf cf, .slice a8 YL.length c8] at hO5
    rw [hw5] at hO5
    have hR5 : RowsIn w5.heap.size w5 (some ⟨wc.heap.size, 0, none⟩) wc.heap.size 0 [.slice af nf cf, .slice a8 YL.length c8] [XL, YL] := by
      refine ⟨fun _ => ⟨rfl, hO5.lt⟩, rfl, fun j h h2 => ?_, fun j h2 n c e => ?_⟩
      · have hj : j = 0 ∨ j = 1 := by simp at h; omega
        rcases hj with rfl | rfl
        · exact ⟨hO5.cell 0, HTF.out _ HB5.out⟩
        · exact ⟨hO5.cell 1, tbs_of_own (own_below (Mf.lowerR HO4.out (Nat.le_refl _)) hw45)⟩
      · have hj : j = 0 ∨ j = 1 := by simp at h2; omega
        rcases hj with rfl | rfl
        · exact (HFF.out none n c e).2.2 rfl
        · exact (fine_of_row HO4.out none n c e).2.2 rfl
    have HCC := Lib.hid (show Calls Try.prog 44 #[.slice (some ⟨wc.heap.size, 0, none⟩) 2 2] w5 fun e w' => ∃ r, e = .returned r ∧ w'.ownsRow w5.heap.size 38 6 r [XL, YL].flatten.length (tcs [XL, YL].flatten) ∧ Below w5.heap.size w5 w' from concat_any (some ⟨wc.heap.size, 0, none⟩) 2 wc.heap.size 0 [.slice af nf cf, .slice a8 YL.length c8] [XL, YL] w5 hR5 (by simp [sumL]; omega) (by simp))
    have hfl : [XL, YL].flatten = XL ++ YL := by simp
    rw [hfl] at HCC
    obtain ⟨ZL, hZL⟩ : ∃ ZL, XL ++ YL = ZL := ⟨_, rfl⟩
    have hzl : 0 < ZL.length ∧ ZL.length ≤ 2097152 := by rw [← hZL, List.length_append]; omega
    rw [hZL] at HCC
    have HZL := Lib.hid hZL
    obtain ⟨sp2, hsp2⟩ : ∃ sp, spanP ZL = sp := ⟨_, rfl⟩
    have HSP2 := Lib.hid hsp2
    obtain ⟨lo2, hi2⟩ := sp2
    have HS5 := Lib.hid (fun (v : Value) (W : World) (hV : Tbs W.heap.size W v ZL) (hf : FineV v) => show Calls Try.prog 77 #[v] W fun e w' => e = .returned (.agg #[.string (Cd.bs lo2), .string (Cd.bs hi2)]) ∧ Below W.heap.size W w' from by have h := spanOf_any v ZL W hV (fun a n c e => ⟨(hf a n c e).1, (hf a n c e).2.1⟩) (by omega) hzl.1; rw [hsp2] at h; exact h)
    have HW5 := Lib.hid hw5
    have HW45 := Lib.hid hw45
    clear hR5 hfl hZL hsp2 hO5 hw5 hw45
    go_upto_region 6 with (first
      | (go_at_call 44; rw [HW5.out]; (with_reducible refine HCC.out.mono ?_); rintro e w6 ⟨r6, rfl, hO6, hb6⟩; have HT6 := Lib.hid (tbs_of_own hO6); have HF6 := Lib.hid (fine_of_row hO6); have HB6 := Lib.hid (HB5.out.trans (hb6.mono HB5.out.size)); have HW6 := Lib.hid (HW45.out.trans (hb6.mono HW45.out.size)); obtain ⟨a6, c6, rfl, _⟩ := Sq.row_cases hO6; clear hO6 hb6)
      | (go_at_call 77; (with_reducible refine (HS5.out _ _ HT6.out HF6.out).mono ?_); rintro e w7 ⟨rfl, hb7⟩; have HB7 := Lib.hid (HB6.out.trans (hb7.mono HB6.out.size)); have HW7 := Lib.hid (HW6.out.trans (hb7.mono HW6.out.size)); clear hb7))
    obtain ⟨w8, hw8⟩ : ∃ w8, w7.alloc (.cells #[.string (Cd.bs lo2), .string (Cd.bs hi2)] 130) = w8 := ⟨_, rfl⟩
    obtain ⟨bs, hbs⟩ : ∃ bs, w7.heap.size = bs := ⟨_, rfl⟩
    have sp8 : Ob.Obj w8 bs 130 [.string (Cd.bs lo2), .string (Cd.bs hi2)] := by rw [← hw8, ← hbs]; exact Ob.Obj.new w7 _ _
    have hb8 : Below wc.heap.size wc w8 := by rw [← hw8]; exact HW7.out.alloc HW7.out.size _
    have HB9 := Lib.hid (show Below w.heap.size w w8 from HB4.out.trans (hb8.mono HB4.out.size))
    have bl9 := BL4.out.below hb8
    have BL9 := Lib.hid bl9
    have BR9 := Lib.hid (BR4.out.below hb8)
    have HO9 := Lib.hid (own_below HO4.out hb8)
    have SP9 := Lib.hid sp8
    rw [hw8, hbs]
    clear hw8 hbs HB6 HB7 HW6 HW7 HT6 HF6 HCC HS5 HW5 HW45 HB5 BL4 BR4
    have hR9 : RowsIn w8.heap.size w8 (some ⟨w.heap.size, 5, none⟩) w.heap.size 5 [.slice a2 n2 c2, .slice a3 n3 c3] [l.t.getD 2 [], l.t.getD 3 []] := by
      refine ⟨fun _ => ⟨rfl, bl9.lt⟩, rfl, fun j h h2 => ?_, fun j h2 n c e => ?_⟩
      · have hj : j = 0 ∨ j = 1 := by simp at h; omega
        rcases hj with rfl | rfl
        · exact ⟨by have := bl9.cell 5; simpa using this, (HL.out _ HB9.out).r2⟩
        · exact ⟨by have := bl9.cell 6; simpa using this, (HL.out _ HB9.out).r3⟩
      · have hj : j = 0 ∨ j = 1 := by simp at h2; omega
        rcases hj with rfl | rfl
        · exact (HF.out.2.2.1 none n c e).2.2 rfl
        · exact (HF.out.2.2.2 none n c e).2.2 rfl
    have hfl9 : ([l.t.getD 2 [], l.t.getD 3 []] : List (List Tbl)) = l.t.drop 2 := by
      match hq : l.t, ht4 with
      | [q0, q1, q2, q3], _ => rfl
    have HC9 := Lib.hid (show Calls Try.prog 44 #[.slice (some ⟨w.heap.size, 5, none⟩) 2 2] w8 fun e w' => ∃ r, e = .returned r ∧ w'.ownsRow w8.heap.size 38 6 r ([l.t.getD 2 [], l.t.getD 3 []] : List (List Tbl)).flatten.length (tcs ([l.t.getD 2 [], l.t.getD 3 []] : List (List Tbl)).flatten) ∧ Below w8.heap.size w8 w' from concat_any (some ⟨w.heap.size, 5, none⟩) 2 w.heap.size 5 [.slice a2 n2 c2, .slice a3 n3 c3] [l.t.getD 2 [], l.t.getD 3 []] w8 hR9 (by have h2 := Mf.getD_le hlens 2; have h3 := Mf.getD_le hlens 3; simp only [List.getD_eq_getElem?_getD] at h2 h3; simp [sumL]; try omega) (by simp))
    obtain ⟨DL, hDL⟩ : ∃ DL, ([l.t.getD 2 [], l.t.getD 3 []] : List (List Tbl)).flatten = DL := ⟨_, rfl⟩
    have hdl : DL.length ≤ 4194304 := by rw [← hDL]; have h2 := Mf.getD_le hlens 2; have h3 := Mf.getD_le hlens 3; simp only [List.getD_eq_getElem?_getD] at h2 h3; simp; try omega
    have HDL := Lib.hid (show (l.t.drop 2).flatten = DL by rw [← hfl9]; exact hDL)
    rw [hDL] at HC9
    have hblz9 := bl9.lt
    clear hR9 hfl9 hDL sp8 bl9
    go_upto_region 7 with (go_at_call 44; (with_reducible refine HC9.out.mono ?_); rintro e wX ⟨rX, rfl, hOX, hbX⟩)
    obtain ⟨aX, cX, rfl, _⟩ := Sq.row_cases hOX
    have HBX := Lib.hid (HB9.out.trans (hbX.mono HB9.out.size))
    have HX8 := Lib.hid hbX
    have HTX := Lib.hid (tbs_of_own hOX)
    have HO7 := Lib.hid (own_below HO9.out hbX)
    have SPX := Lib.hid (SP9.out.below hbX)
    have BRX := Lib.hid (BR9.out.below hbX)
    have hbrX : br < wX.heap.size := BRX.out.lt
    have hbsX : bs < wX.heap.size := SPX.out.lt
    have hbs8 : wc.heap.size ≤ wX.heap.size := Nat.le_trans hb8.size hbX.size
    have HW1 := Lib.hid (fun W (h : Below wX.heap.size wX W) => own_any (.slice af nf cf) XL W (HTF.out W (HBX.out.trans (h.mono HBX.out.size))) (fun n c e => (HFF.out none n c e).2.2 rfl) hx2 hxin.out)
    have HW2 := Lib.hid (fun W (h : Below wX.heap.size wX W) => own_any (.slice a8 YL.length c8) YL W (tbs_of_own (own_below HO7.out h)) (fun n c e => (fine_of_row HO7.out none n c e).2.2 rfl) hy2 hyin.out)
    have HW3 := Lib.hid (fun W (h : Below wX.heap.size wX W) => touched_any (.slice aX DL.length cX) DL lo2 hi2 W (HTX.out.grow h h.size) hdl)
    obtain ⟨ML, hML⟩ : ∃ M, overP lo2 hi2 DL = M := ⟨_, rfl⟩
    rw [hML] at HW3
    have HJ := Lib.hid (show jobP l.t 0 key = ⟨0, XL, YL, ML.isEmpty⟩ by
      have hs : srcP l.t 0 key = XL := HXL.out
      have hd : dstP l.t 0 key = YL := by unfold dstP; rw [hs, HSP.out]; exact HYL.out
      have hbt : botP l.t 0 key = ML.isEmpty := by unfold botP; rw [hs, hd, HZL.out, HSP2.out]; simp only; rw [HDL.out, hML]
      unfold jobP
      rw [hs, hd, hbt]
      rfl)
    have hM0 : ((ML.length : Int) == 0) = ML.isEmpty := by
      cases ML with
      | nil => rfl
      | cons a r => simp; omega
    have s0 := SPX.out.cell 0
    have s1 := SPX.out.cell 1
    simp at s0 s1
    have tok : True := trivial
    clear hOX hbX hML HO9 SP9 BR9 BL9 HC9 hb8 HTX
    generalize ML.isEmpty = mz at *
    go_region_with (first
      | (go_at_call 79; have _t := tok; clear _t tok; (with_reducible refine (HW1.out _ (by exact (Below.refl _ _).drew)).mono ?_); rintro e w1 ⟨v1, rfl, hP1, hb1⟩; obtain ⟨p1, q1, rfl, _⟩ := Sq.row_cases hP1; have hX1 : Below wX.heap.size wX w1 := (by exact (Below.refl _ _).drew.trans hb1); have HP1 := Lib.hid (show w1.ownsRow wX.heap.size 38 6 (.slice p1 XL.length q1) XL.length (tcs XL) from hP1); have sp1 := SPX.out.below hX1; have s0 := sp1.cell 0; have s1 := sp1.cell 1; simp at s0 s1; have hbs1 := sp1.lt; clear hP1 sp1 hb1)
      | (go_at_call 79; (with_reducible refine (HW2.out _ hX1).mono ?_); rintro e w2 ⟨v2, rfl, hP2, hb2⟩; obtain ⟨p2, q2, rfl, _⟩ := Sq.row_cases hP2; have hX2 := hX1.trans (hb2.mono hX1.size); have HP1 := Lib.hid (own_below HP1.out hb2); have HP2 := Lib.hid (Mf.lowerR hP2 hX1.size); have sp2 := SPX.out.below hX2; have s0 := sp2.cell 0; have s1 := sp2.cell 1; simp at s0 s1; have hbs2 := sp2.lt; clear hP2 sp2 hb2)
      | (go_at_call 78; (with_reducible refine (HW3.out _ hX2).mono ?_); rintro e w3 ⟨v3, rfl, hP3, hb3⟩; obtain ⟨p3, q3, rfl, _⟩ := Sq.row_cases hP3; have hX3 := hX2.trans (hb3.mono hX2.size); have HQ1 := Lib.hid (own_below HP1.out hb3); have HQ2 := Lib.hid (own_below HP2.out hb3); have br3 := BRX.out.below hX3; have BR3 := Lib.hid br3; have r0 := br3.cell 0; have f0 := br3.frozen 0; have r1 := br3.cell 1; have f1 := br3.frozen 1; have r2 := br3.cell 2; have f2 := br3.frozen 2; have r3 := br3.cell 3; have f3 := br3.frozen 3; simp at r0 r1 r2 r3; have hbr3 := br3.lt; clear hP3 hb3 br3))
    all_goals (try go_wp2_with fail)
    all_goals
      have hz := (((BR3.out.set 0 (.int .i64 0)).set 1 (.slice p1 XL.length q1)).set 2 (.slice p2 YL.length q2)).set 3 (.bool mz)
      have hx := row1 (b := br) (o := 3) (row1 (b := br) (o := 2) (row1 (b := br) (o := 1) (row1 (b := br) (o := 0) HQ1.out hbrX (.int .i64 0)) hbrX (.slice p1 XL.length q1)) hbrX (.slice p2 YL.length q2)) hbrX (.bool mz)
      have hy := row1 (b := br) (o := 3) (row1 (b := br) (o := 2) (row1 (b := br) (o := 1) (row1 (b := br) (o := 0) HQ2.out hbrX (.int .i64 0)) hbrX (.slice p1 XL.length q1)) hbrX (.slice p2 YL.length q2)) hbrX (.bool mz)
      have hbz := ((((HBX.out.trans (hX3.mono HBX.out.size)).setCell (p := ⟨br, 0, none⟩) (Nat.le_of_lt hord) (.int .i64 0)).setCell (p := ⟨br, 1, none⟩) (Nat.le_of_lt hord) (.slice p1 XL.length q1)).setCell (p := ⟨br, 2, none⟩) (Nat.le_of_lt hord) (.slice p2 YL.length q2)).setCell (p := ⟨br, 3, none⟩) (Nat.le_of_lt hord) (.bool mz)
      have z0 := hz.cell 0
      have z1 := hz.cell 1
      have z2 := hz.cell 2
      have z3 := hz.cell 3
      simp at z0 z1 z2 z3
      generalize ((((w3.setCell ⟨br, 0, none⟩ (.int .i64 0)).setCell ⟨br, 1, none⟩ (.slice p1 XL.length q1)).setCell ⟨br, 2, none⟩ (.slice p2 YL.length q2)).setCell ⟨br, 3, none⟩ (.bool mz)) = wZ at *
      exact bodyPost_ret (v := .agg #[.int .i64 0, .slice p1 XL.length q1, .slice p2 YL.length q2, .bool mz]) (by simp [results, Try.results48, go_sem, z0, z1, z2, z3]) rfl ⟨_, _, by rw [HJ.out]; rfl, by rw [HJ.out]; exact Mf.lowerR hx HBX.out.size, by rw [HJ.out]; exact Mf.lowerR hy HBX.out.size, hbz⟩
end Cp
end Go.Proofs.Ytpldfdlnhgmnaaa
