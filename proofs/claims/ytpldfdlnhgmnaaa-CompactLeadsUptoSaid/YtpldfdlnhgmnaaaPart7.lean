import Derived.Deep.Cut
import Derived.Deep.CutRange
import Derived.Deep.RegionWith
import Derived.Test.YtpldfdlnhgmnaaaPart6
/-
  compact: job: the compaction of a level that has a table at least.
-/
namespace Go.Proofs.Ytpldfdlnhgmnaaa
open Go.RowKit
set_option linter.unusedSimpArgs false
set_option linter.unusedVariables false
namespace Cp
open Op (bytesLess)
open Mf (Tbl Lv lvV LvIn Tbs TAt TblIn uA box_lev tcs tbs_of_own)
open Md10 (setCell_self)
set_option maxRecDepth 1000000 in
set_option maxHeartbeats 40000000 in
theorem job1_any (l : Lv) (a0 a1 a2 a3 : Option Addr) (n0 n1 n2 n3 c0 c1 c2 c3 : Nat) (key : List UInt8) (w : World) (hL : LvIn w.heap.size w l (.slice a0 n0 c0) (.slice a1 n1 c1) (.slice a2 n2 c2) (.slice a3 n3 c3)) (HF : Hid (FineV (.slice a0 n0 c0) ∧ FineV (.slice a1 n1 c1) ∧ FineV (.slice a2 n2 c2) ∧ FineV (.slice a3 n3 c3))) (hpos : 0 < (l.t.getD 1 []).length) (HIN : Hid (∀ x, (∃ j, x ∈ l.t.getD j []) → TblIn x)) :
    Calls Try.prog 48 #[lvV l (.slice a0 n0 c0) (.slice a1 n1 c1) (.slice a2 n2 c2) (.slice a3 n3 c3), .int .i64 1, .string (Cd.bs key)] w fun e w' => ∃ x y, e = .returned (jobV (jobP l.t 1 key) x y) ∧ w'.ownsRow w.heap.size 38 6 x (jobP l.t 1 key).src.length (tcs (jobP l.t 1 key).src) ∧ w'.ownsRow w.heap.size 38 6 y (jobP l.t 1 key).dst.length (tcs (jobP l.t 1 key).dst) ∧ Below w.heap.size w w' := by
  have HL := Lib.hid (fun W (h : Below w.heap.size w W) => hL.grow h h.size)
  have hlens := hL.len
  have ht4 := hL.four
  obtain ⟨wA, hA⟩ : ∃ wA, w.alloc (.cells #[.int .u64 l.next, .int .u64 l.seq, .int .u64 l.log, .slice a0 n0 c0, .slice a1 n1 c1, .slice a2 n2 c2, .slice a3 n3 c3] 27) = wA := ⟨_, rfl⟩
  have bA : Below w.heap.size w wA := by rw [← hA]; exact (Below.refl _ _).alloc (Nat.le_refl _) _
  have yA : Ob.Obj wA w.heap.size 27 [.int .u64 l.next, .int .u64 l.seq, .int .u64 l.log, .slice a0 n0 c0, .slice a1 n1 c1, .slice a2 n2 c2, .slice a3 n3 c3] := by rw [← hA]; exact Ob.Obj.new w _ [.int .u64 l.next, .int .u64 l.seq, .int .u64 l.log, .slice a0 n0 c0, .slice a1 n1 c1, .slice a2 n2 c2, .slice a3 n3 c3]
  obtain ⟨br, hbr⟩ : ∃ j, wA.heap.size = j := ⟨_, rfl⟩
  obtain ⟨W, hB⟩ : ∃ wB, wA.alloc (.cells #[.int .i64 0, .slice none 0 0, .slice none 0 0, .bool false] 56) = wB := ⟨_, rfl⟩
  have HBW := Lib.hid (show Below w.heap.size w W by rw [← hB]; exact bA.alloc bA.size _)
  have BL := Lib.hid (show Ob.Obj W w.heap.size 27 [.int .u64 l.next, .int .u64 l.seq, .int .u64 l.log, .slice a0 n0 c0, .slice a1 n1 c1, .slice a2 n2 c2, .slice a3 n3 c3] by rw [← hB]; exact yA.alloc _)
  have BR := Lib.hid (show Ob.Obj W br 56 [.int .i64 0, .slice none 0 0, .slice none 0 0, .bool false] by rw [← hB, ← hbr]; exact Ob.Obj.new wA _ [.int .i64 0, .slice none 0 0, .slice none 0 0, .bool false])
  have hord : w.heap.size < br := by have := yA.lt; omega
  clear hL bA yA
  unfold lvV
  have HBH := Lib.hid (fun W (h : Below w.heap.size w W) => behind_any (.slice a1 n1 c1) (l.t.getD 1 []) key W (HL.out W h).r1 (fun a n c e => ⟨(HF.out.2.1 a n c e).1, (HF.out.2.1 a n c e).2.1⟩) (by have := Mf.getD_le hlens 1; omega) hpos)
  have k4 := BL.out.cell 4
  simp at k4
  have hblz0 := BL.out.lt
  go_enter Try.func48, Try.ntmps48
  go_upto_region 3 with fail
  clear hA hB hbr
  go_upto_region 4 with (go_at_call 76; (with_reducible refine (HBH.out _ HBW.out).mono ?_); rintro e W1 ⟨⟨ad, cf, rfl, hc1, hc2, hT1⟩, hb1⟩)
  have hsrc : ((l.t.getD 1 []).drop (idxP (l.t.getD 1 []) key)).take 1 = srcP l.t 1 key := by unfold srcP; rw [if_neg (by decide)]
  rw [hsrc] at hT1
  obtain ⟨XL, hXL⟩ : ∃ XL, srcP l.t 1 key = XL := ⟨_, rfl⟩
  rw [hXL] at hT1
  have HXL := Lib.hid hXL
  have HFF0 := Lib.hid (show FineV (.slice (some ad) 1 cf) from fun a n c e => by injection e with e1 e2 e3; subst e1 e2 e3; exact ⟨hc1, hc2, fun h => by cases h⟩)
  have HTF0 := Lib.hid (show ∀ W', Below w.heap.size w W' → Tbs W'.heap.size W' (.slice (some ad) 1 cf) XL from fun W' h => hT1 _ _ (HL.out W' h).r1)
  have HBW1 := Lib.hid (HBW.out.trans (hb1.mono HBW.out.size))
  have BL1 := Lib.hid (BL.out.below hb1)
  have BR1 := Lib.hid (BR.out.below hb1)
  have HFF := HFF0
  have HTF := HTF0
  clear hT1 hsrc hXL HFF0 HTF0 HBW BL BR hb1 HBH hc1 hc2 k4 hblz0
  revert W1
  intro W HBW BL BR
  have hx1 : 0 < XL.length := by rw [← HXL.out]; exact srcP_pos _ hpos
  have hx2 : XL.length ≤ 1048576 := by rw [← HXL.out]; exact srcP_len (by decide) hlens 1 _
  have hxin : Hid (∀ x ∈ XL, TblIn x) := fun x h => HIN.out x (by rw [← HXL.out] at h; exact srcP_mem h)
  obtain ⟨sp, hsp⟩ : ∃ sp, spanP XL = sp := ⟨_, rfl⟩
  have HSP := Lib.hid hsp
  have HSO := Lib.hid (fun W (h : Below w.heap.size w W) => spanOf_any (.slice (some ad) 1 cf) XL W (HTF.out _ h) (fun a n c e => ⟨(HFF.out a n c e).1, (HFF.out a n c e).2.1⟩) (by omega) hx1)
  rw [hsp] at HSO
  obtain ⟨lo, hi⟩ := sp
  have HTO := Lib.hid (fun W (h : Below w.heap.size w W) => touched_any (.slice a2 n2 c2) (l.t.getD 2 []) lo hi W (HL.out _ h).r2 (by have := Mf.getD_le hlens 2; omega))
  obtain ⟨YL, hYL⟩ : ∃ YL, overP lo hi (l.t.getD 2 []) = YL := ⟨_, rfl⟩
  have hy2 : YL.length ≤ 1048576 := by rw [← hYL]; exact Nat.le_trans (overP_len _ _ _) (Mf.getD_le hlens 2)
  have hyin : Hid (∀ x ∈ YL, TblIn x) := fun x h => HIN.out x (by rw [← hYL] at h; exact ⟨2, (List.mem_filter.1 h).1⟩)
  rw [hYL] at HTO
  have HYL := Lib.hid hYL
  have hblz := BL.out.lt
  have k5 := BL.out.cell 5
  simp at k5
  clear hsp hYL
  go_upto_region 4 with fail
  go_cut [8] from 20 to 27 (fun r wx => RowOut W.heap.size YL W r wx)
  case first =>
    go_region_with (first
      | (go_at_call 77; (with_reducible refine (HSO.out _ HBW.out.drew).mono ?_); rintro e w1 ⟨rfl, hb1⟩; have hb1w : Below W.heap.size W w1 := (by exact (Below.refl _ _).drew.trans hb1); have HB1 := Lib.hid (HBW.out.trans (hb1w.mono HBW.out.size)); have k1 := (BL.out.below hb1w).cell 5; simp at k1)
      | (go_at_call 78; (with_reducible refine (HTO.out _ HB1.out).mono ?_); rintro e w2 ⟨rv, rfl, hO2, hb2⟩; have HO2 := Lib.hid (show RowOut W.heap.size YL W rv w2 from ⟨Mf.lowerR hO2 hb1w.size, hb1w.trans (hb2.mono hb1w.size)⟩); clear hO2 hb2))
    all_goals (try go_wp2_with fail)
    all_goals go_meet
    all_goals exact HO2.out
  case rest =>
    obtain ⟨hO4, hb4⟩ := hcut
    obtain ⟨a8, c8, hr8, _⟩ := Sq.row_cases hO4
    subst hr8
    have HO4 := Lib.hid hO4
    have HB4 := Lib.hid (HBW.out.trans (hb4.mono HBW.out.size))
    have HW4 := Lib.hid hb4
    have BL4 := Lib.hid (BL.out.below hb4)
    have BR4 := Lib.hid (BR.out.below hb4)
    clear hO4 hb4 k5 HTO HSO
    obtain ⟨w5, hw5⟩ : ∃ w5, wc.alloc (.cells #[.slice (some ad) 1 cf, .slice a8 YL.length c8] 24) = w5 := ⟨_, rfl⟩
    have HB5 := Lib.hid (show Below w.heap.size w w5 by rw [← hw5]; exact HB4.out.alloc HB4.out.size _)
    have hw45 : Below wc.heap.size wc w5 := by rw [← hw5]; exact (Below.refl _ _).alloc (Nat.le_refl _) _
    have hO5 := Ob.Obj.new wc 24 [.slice (some ad) 1 cf, .slice a8 YL.length c8]
    change Ob.Obj (wc.alloc (.cells #[.slice (some ad) 1 cf, .slice a8 YL.length c8] 24)) wc.heap.size 24 [.slice (some ad) 1 cf, .slice a8 YL.length c8] at hO5
    rw [hw5] at hO5
    have hR5 : RowsIn w5.heap.size w5 (some ⟨wc.heap.size, 0, none⟩) wc.heap.size 0 [.slice (some ad) 1 cf, .slice a8 YL.length c8] [XL, YL] := by
      refine ⟨fun _ => ⟨rfl, hO5.lt⟩, rfl, fun j h h2 => ?_, fun j h2 n c e => ?_⟩
      · have hj : j = 0 ∨ j = 1 := by simp at h; omega
        rcases hj with rfl | rfl
        · exact ⟨hO5.cell 0, HTF.out _ HB5.out⟩
        · exact ⟨hO5.cell 1, tbs_of_own (own_below (Mf.lowerR HO4.out (Nat.le_refl _)) hw45)⟩
      · have hj : j = 0 ∨ j = 1 := by simp at h2; omega
        rcases hj with rfl | rfl
        · exact (HFF.out none n c e).2.2 rfl
        · exact (fine_of_row HO4.out none n c e).2.2 rfl
    have HCC := Lib.hid (show Calls Try.prog 44 #[.slice (some ⟨wc.heap.size, 0, none⟩) 2 2] w5 fun e w' => ∃ r, e = .returned r ∧ w'.ownsRow w5.heap.size 38 6 r [XL, YL].flatten.length (tcs [XL, YL].flatten) ∧ Below w5.heap.size w5 w' from concat_any (some ⟨wc.heap.size, 0, none⟩) 2 wc.heap.size 0 [.slice (some ad) 1 cf, .slice a8 YL.length c8] [XL, YL] w5 hR5 (by simp [sumL]; omega) (by simp))
    have hfl : [XL, YL].flatten = XL ++ YL := by simp
    rw [hfl] at HCC
    obtain ⟨ZL, hZL⟩ : ∃ ZL, XL ++ YL = ZL := ⟨_, rfl⟩
    have hzl : 0 < ZL.length ∧ ZL.length ≤ 2097152 := by rw [← hZL, List.length_append]; omega
    rw [hZL] at HCC
    have HZL := Lib.hid hZL
    obtain ⟨sp2, hsp2⟩ : ∃ sp, spanP ZL = sp := ⟨_, rfl⟩
    have HSP2 := Lib.hid hsp2
    obtain ⟨lo2, hi2⟩ := sp2
    have HS5 := Lib.hid (fun (v : Value) (W : World) (hV : Tbs W.heap.size W v ZL) (hf : FineV v) => show Calls Try.prog 77 #[v] W fun e w' => e = .returned (.agg #[.string (Cd.bs lo2), .string (Cd.bs hi2)]) ∧ Below W.heap.size W w' from by have h := spanOf_any v ZL W hV (fun a n c e => ⟨(hf a n c e).1, (hf a n c e).2.1⟩) (by omega) hzl.1; rw [hsp2] at h; exact h)
    have HW5 := Lib.hid hw5
    have HW45 := Lib.hid hw45
    clear hR5 hfl hZL hsp2 hO5 hw5 hw45
    go_upto_region 6 with (first
      | (go_at_call 44; rw [HW5.out]; (with_reducible refine HCC.out.mono ?_); rintro e w6 ⟨r6, rfl, hO6, hb6⟩; have HT6 := Lib.hid (tbs_of_own hO6); have HF6 := Lib.hid (fine_of_row hO6); have HB6 := Lib.hid (HB5.out.trans (hb6.mono HB5.out.size)); have HW6 := Lib.hid (HW45.out.trans (hb6.mono HW45.out.size)); obtain ⟨a6, c6, rfl, _⟩ := Sq.row_cases hO6; clear hO6 hb6)
      | (go_at_call 77; (with_reducible refine (HS5.out _ _ HT6.out HF6.out).mono ?_); rintro e w7 ⟨rfl, hb7⟩; have HB7 := Lib.hid (HB6.out.trans (hb7.mono HB6.out.size)); have HW7 := Lib.hid (HW6.out.trans (hb7.mono HW6.out.size)); clear hb7))
    obtain ⟨w8, hw8⟩ : ∃ w8, w7.alloc (.cells #[.string (Cd.bs lo2), .string (Cd.bs hi2)] 130) = w8 := ⟨_, rfl⟩
    obtain ⟨bs, hbs⟩ : ∃ bs, w7.heap.size = bs := ⟨_, rfl⟩
    have sp8 : Ob.Obj w8 bs 130 [.string (Cd.bs lo2), .string (Cd.bs hi2)] := by rw [← hw8, ← hbs]; exact Ob.Obj.new w7 _ _
    have hb8 : Below wc.heap.size wc w8 := by rw [← hw8]; exact HW7.out.alloc HW7.out.size _
    have HB9 := Lib.hid (show Below w.heap.size w w8 from HB4.out.trans (hb8.mono HB4.out.size))
    have bl9 := BL4.out.below hb8
    have BL9 := Lib.hid bl9
    have BR9 := Lib.hid (BR4.out.below hb8)
    have HO9 := Lib.hid (own_below HO4.out hb8)
    have SP9 := Lib.hid sp8
    rw [hw8, hbs]
    clear hw8 hbs HB6 HB7 HW6 HW7 HT6 HF6 HCC HS5 HW5 HW45 HB5 BL4 BR4
    have hR9 : RowsIn w8.heap.size w8 (some ⟨w.heap.size, 6, none⟩) w.heap.size 6 [.slice a3 n3 c3] [l.t.getD 3 []] := by
      refine ⟨fun _ => ⟨rfl, bl9.lt⟩, rfl, fun j h h2 => ?_, fun j h2 n c e => ?_⟩
      · obtain rfl : j = 0 := by simp at h; omega
        exact ⟨by have := bl9.cell 6; simpa using this, (HL.out _ HB9.out).r3⟩
      · obtain rfl : j = 0 := by simp at h2; omega
        exact (HF.out.2.2.2 none n c e).2.2 rfl
    have hfl9 : ([l.t.getD 3 []] : List (List Tbl)) = l.t.drop 3 := by
      match hq : l.t, ht4 with
      | [q0, q1, q2, q3], _ => rfl
    have HC9 := Lib.hid (show Calls Try.prog 44 #[.slice (some ⟨w.heap.size, 6, none⟩) 1 1] w8 fun e w' => ∃ r, e = .returned r ∧ w'.ownsRow w8.heap.size 38 6 r ([l.t.getD 3 []] : List (List Tbl)).flatten.length (tcs ([l.t.getD 3 []] : List (List Tbl)).flatten) ∧ Below w8.heap.size w8 w' from concat_any (some ⟨w.heap.size, 6, none⟩) 1 w.heap.size 6 [.slice a3 n3 c3] [l.t.getD 3 []] w8 hR9 (by have h2 := Mf.getD_le hlens 2; have h3 := Mf.getD_le hlens 3; simp only [List.getD_eq_getElem?_getD] at h2 h3; simp [sumL]; try omega) (by simp))
    obtain ⟨DL, hDL⟩ : ∃ DL, ([l.t.getD 3 []] : List (List Tbl)).flatten = DL := ⟨_, rfl⟩
    have hdl : DL.length ≤ 4194304 := by rw [← hDL]; have h2 := Mf.getD_le hlens 2; have h3 := Mf.getD_le hlens 3; simp only [List.getD_eq_getElem?_getD] at h2 h3; simp; try omega
    have HDL := Lib.hid (show (l.t.drop 3).flatten = DL by rw [← hfl9]; exact hDL)
    rw [hDL] at HC9
    have hblz9 := bl9.lt
    clear hR9 hfl9 hDL sp8 bl9
    go_upto_region 7 with (go_at_call 44; (with_reducible refine HC9.out.mono ?_); rintro e wX ⟨rX, rfl, hOX, hbX⟩)
    obtain ⟨aX, cX, rfl, _⟩ := Sq.row_cases hOX
    have HBX := Lib.hid (HB9.out.trans (hbX.mono HB9.out.size))
    have HX8 := Lib.hid hbX
    have HTX := Lib.hid (tbs_of_own hOX)
    have HO7 := Lib.hid (own_below HO9.out hbX)
    have SPX := Lib.hid (SP9.out.below hbX)
    have BRX := Lib.hid (BR9.out.below hbX)
    have hbrX : br < wX.heap.size := BRX.out.lt
    have hbsX : bs < wX.heap.size := SPX.out.lt
    have hbs8 : wc.heap.size ≤ wX.heap.size := Nat.le_trans hb8.size hbX.size
    have HW1 := Lib.hid (fun W (h : Below wX.heap.size wX W) => own_any (.slice (some ad) 1 cf) XL W (HTF.out W (HBX.out.trans (h.mono HBX.out.size))) (fun n c e => (HFF.out none n c e).2.2 rfl) hx2 hxin.out)
    have HW2 := Lib.hid (fun W (h : Below wX.heap.size wX W) => own_any (.slice a8 YL.length c8) YL W (tbs_of_own (own_below HO7.out h)) (fun n c e => (fine_of_row HO7.out none n c e).2.2 rfl) hy2 hyin.out)
    have HW3 := Lib.hid (fun W (h : Below wX.heap.size wX W) => touched_any (.slice aX DL.length cX) DL lo2 hi2 W (HTX.out.grow h h.size) hdl)
    obtain ⟨ML, hML⟩ : ∃ M, overP lo2 hi2 DL = M := ⟨_, rfl⟩
    rw [hML] at HW3
    have HJ := Lib.hid (show jobP l.t 1 key = ⟨1, XL, YL, ML.isEmpty⟩ by
      have hs : srcP l.t 1 key = XL := HXL.out
      have hd : dstP l.t 1 key = YL := by unfold dstP; rw [hs, HSP.out]; exact HYL.out
      have hbt : botP l.t 1 key = ML.isEmpty := by unfold botP; rw [hs, hd, HZL.out, HSP2.out]; simp only; rw [HDL.out, hML]
      unfold jobP
      rw [hs, hd, hbt]
      rfl)
    have hM0 : ((ML.length : Int) == 0) = ML.isEmpty := by
      cases ML with
      | nil => rfl
      | cons a r => simp; omega
    have s0 := SPX.out.cell 0
    have s1 := SPX.out.cell 1
    simp at s0 s1
    have tok : True := trivial
    clear hOX hbX hML HO9 SP9 BR9 BL9 HC9 hb8 HTX
    generalize ML.isEmpty = mz at *
    go_region_with (first
      | (go_at_call 79; have _t := tok; clear _t tok; (with_reducible refine (HW1.out _ (by exact (Below.refl _ _).drew)).mono ?_); rintro e w1 ⟨v1, rfl, hP1, hb1⟩; obtain ⟨p1, q1, rfl, _⟩ := Sq.row_cases hP1; have hX1 : Below wX.heap.size wX w1 := (by exact (Below.refl _ _).drew.trans hb1); have HP1 := Lib.hid (show w1.ownsRow wX.heap.size 38 6 (.slice p1 XL.length q1) XL.length (tcs XL) from hP1); have sp1 := SPX.out.below hX1; have s0 := sp1.cell 0; have s1 := sp1.cell 1; simp at s0 s1; have hbs1 := sp1.lt; clear hP1 sp1 hb1)
      | (go_at_call 79; (with_reducible refine (HW2.out _ hX1).mono ?_); rintro e w2 ⟨v2, rfl, hP2, hb2⟩; obtain ⟨p2, q2, rfl, _⟩ := Sq.row_cases hP2; have hX2 := hX1.trans (hb2.mono hX1.size); have HP1 := Lib.hid (own_below HP1.out hb2); have HP2 := Lib.hid (Mf.lowerR hP2 hX1.size); have sp2 := SPX.out.below hX2; have s0 := sp2.cell 0; have s1 := sp2.cell 1; simp at s0 s1; have hbs2 := sp2.lt; clear hP2 sp2 hb2)
      | (go_at_call 78; (with_reducible refine (HW3.out _ hX2).mono ?_); rintro e w3 ⟨v3, rfl, hP3, hb3⟩; obtain ⟨p3, q3, rfl, _⟩ := Sq.row_cases hP3; have hX3 := hX2.trans (hb3.mono hX2.size); have HQ1 := Lib.hid (own_below HP1.out hb3); have HQ2 := Lib.hid (own_below HP2.out hb3); have br3 := BRX.out.below hX3; have BR3 := Lib.hid br3; have r0 := br3.cell 0; have f0 := br3.frozen 0; have r1 := br3.cell 1; have f1 := br3.frozen 1; have r2 := br3.cell 2; have f2 := br3.frozen 2; have r3 := br3.cell 3; have f3 := br3.frozen 3; simp at r0 r1 r2 r3; have hbr3 := br3.lt; clear hP3 hb3 br3))
    all_goals (try go_wp2_with fail)
    all_goals
      have hz := (((BR3.out.set 0 (.int .i64 1)).set 1 (.slice p1 XL.length q1)).set 2 (.slice p2 YL.length q2)).set 3 (.bool mz)
      have hx := row1 (b := br) (o := 3) (row1 (b := br) (o := 2) (row1 (b := br) (o := 1) (row1 (b := br) (o := 0) HQ1.out hbrX (.int .i64 1)) hbrX (.slice p1 XL.length q1)) hbrX (.slice p2 YL.length q2)) hbrX (.bool mz)
      have hy := row1 (b := br) (o := 3) (row1 (b := br) (o := 2) (row1 (b := br) (o := 1) (row1 (b := br) (o := 0) HQ2.out hbrX (.int .i64 1)) hbrX (.slice p1 XL.length q1)) hbrX (.slice p2 YL.length q2)) hbrX (.bool mz)
      have hbz := ((((HBX.out.trans (hX3.mono HBX.out.size)).setCell (p := ⟨br, 0, none⟩) (Nat.le_of_lt hord) (.int .i64 1)).setCell (p := ⟨br, 1, none⟩) (Nat.le_of_lt hord) (.slice p1 XL.length q1)).setCell (p := ⟨br, 2, none⟩) (Nat.le_of_lt hord) (.slice p2 YL.length q2)).setCell (p := ⟨br, 3, none⟩) (Nat.le_of_lt hord) (.bool mz)
      have z0 := hz.cell 0
      have z1 := hz.cell 1
      have z2 := hz.cell 2
      have z3 := hz.cell 3
      simp at z0 z1 z2 z3
      generalize ((((w3.setCell ⟨br, 0, none⟩ (.int .i64 1)).setCell ⟨br, 1, none⟩ (.slice p1 XL.length q1)).setCell ⟨br, 2, none⟩ (.slice p2 YL.length q2)).setCell ⟨br, 3, none⟩ (.bool mz)) = wZ at *
      exact bodyPost_ret (v := .agg #[.int .i64 1, .slice p1 XL.length q1, .slice p2 YL.length q2, .bool mz]) (by simp [results, Try.results48, go_sem, z0, z1, z2, z3]) rfl ⟨_, _, by rw [HJ.out]; rfl, by rw [HJ.out]; exact Mf.lowerR hx HBX.out.size, by rw [HJ.out]; exact Mf.lowerR hy HBX.out.size, hbz⟩
end Cp
end Go.Proofs.Ytpldfdlnhgmnaaa

/-
  compact: job: the compaction of a level that has a table at least.
-/
namespace Go.Proofs.Ytpldfdlnhgmnaaa
open Go.RowKit
set_option linter.unusedSimpArgs false
set_option linter.unusedVariables false
namespace Cp
open Op (bytesLess)
open Mf (Tbl Lv lvV LvIn Tbs TAt TblIn uA box_lev tcs tbs_of_own)
open Md10 (setCell_self)
set_option maxRecDepth 1000000 in
set_option maxHeartbeats 40000000 in
theorem job2_any (l : Lv) (a0 a1 a2 a3 : Option Addr) (n0 n1 n2 n3 c0 c1 c2 c3 : Nat) (key : List UInt8) (w : World) (hL : LvIn w.heap.size w l (.slice a0 n0 c0) (.slice a1 n1 c1) (.slice a2 n2 c2) (.slice a3 n3 c3)) (HF : Hid (FineV (.slice a0 n0 c0) ∧ FineV (.slice a1 n1 c1) ∧ FineV (.slice a2 n2 c2) ∧ FineV (.slice a3 n3 c3))) (hpos : 0 < (l.t.getD 2 []).length) (HIN : Hid (∀ x, (∃ j, x ∈ l.t.getD j []) → TblIn x)) :
    Calls Try.prog 48 #[lvV l (.slice a0 n0 c0) (.slice a1 n1 c1) (.slice a2 n2 c2) (.slice a3 n3 c3), .int .i64 2, .string (Cd.bs key)] w fun e w' => ∃ x y, e = .returned (jobV (jobP l.t 2 key) x y) ∧ w'.ownsRow w.heap.size 38 6 x (jobP l.t 2 key).src.length (tcs (jobP l.t 2 key).src) ∧ w'.ownsRow w.heap.size 38 6 y (jobP l.t 2 key).dst.length (tcs (jobP l.t 2 key).dst) ∧ Below w.heap.size w w' := by
  have HL := Lib.hid (fun W (h : Below w.heap.size w W) => hL.grow h h.size)
  have hlens := hL.len
  have ht4 := hL.four
  obtain ⟨wA, hA⟩ : ∃ wA, w.alloc (.cells #[.int .u64 l.next, .int .u64 l.seq, .int .u64 l.log, .slice a0 n0 c0, .slice a1 n1 c1, .slice a2 n2 c2, .slice a3 n3 c3] 27) = wA := ⟨_, rfl⟩
  have bA : Below w.heap.size w wA := by rw [← hA]; exact (Below.refl _ _).alloc (Nat.le_refl _) _
  have yA : Ob.Obj wA w.heap.size 27 [.int .u64 l.next, .int .u64 l.seq, .int .u64 l.log, .slice a0 n0 c0, .slice a1 n1 c1, .slice a2 n2 c2, .slice a3 n3 c3] := by rw [← hA]; exact Ob.Obj.new w _ [.int .u64 l.next, .int .u64 l.seq, .int .u64 l.log, .slice a0 n0 c0, .slice a1 n1 c1, .slice a2 n2 c2, .slice a3 n3 c3]
  obtain ⟨br, hbr⟩ : ∃ j, wA.heap.size = j := ⟨_, rfl⟩
  obtain ⟨W, hB⟩ : ∃ wB, wA.alloc (.cells #[.int .i64 0, .slice none 0 0, .slice none 0 0, .bool false] 56) = wB := ⟨_, rfl⟩
  have HBW := Lib.hid (show Below w.heap.size w W by rw [← hB]; exact bA.alloc bA.size _)
  have BL := Lib.hid (show Ob.Obj W w.heap.size 27 [.int .u64 l.next, .int .u64 l.seq, .int .u64 l.log, .slice a0 n0 c0, .slice a1 n1 c1, .slice a2 n2 c2, .slice a3 n3 c3] by rw [← hB]; exact yA.alloc _)
  have BR := Lib.hid (show Ob.Obj W br 56 [.int .i64 0, .slice none 0 0, .slice none 0 0, .bool false] by rw [← hB, ← hbr]; exact Ob.Obj.new wA _ [.int .i64 0, .slice none 0 0, .slice none 0 0, .bool false])
  have hord : w.heap.size < br := by have := yA.lt; omega
  clear hL bA yA
  unfold lvV
  have HBH := Lib.hid (fun W (h : Below w.heap.size w W) => behind_any (.slice a2 n2 c2) (l.t.getD 2 []) key W (HL.out W h).r2 (fun a n c e => ⟨(HF.out.2.2.1 a n c e).1, (HF.out.2.2.1 a n c e).2.1⟩) (by have := Mf.getD_le hlens 2; omega) hpos)
  have k5 := BL.out.cell 5
  simp at k5
  have hblz0 := BL.out.lt
  go_enter Try.func48, Try.ntmps48
  go_upto_region 3 with fail
  clear hA hB hbr
  go_upto_region 4 with (go_at_call 76; (with_reducible refine (HBH.out _ HBW.out).mono ?_); rintro e W1 ⟨⟨ad, cf, rfl, hc1, hc2, hT1⟩, hb1⟩)
  have hsrc : ((l.t.getD 2 []).drop (idxP (l.t.getD 2 []) key)).take 1 = srcP l.t 2 key := by unfold srcP; rw [if_neg (by decide)]
  rw [hsrc] at hT1
  obtain ⟨XL, hXL⟩ : ∃ XL, srcP l.t 2 key = XL := ⟨_, rfl⟩
  rw [hXL] at hT1
  have HXL := Lib.hid hXL
  have HFF0 := Lib.hid (show FineV (.slice (some ad) 1 cf) from fun a n c e => by injection e with e1 e2 e3; subst e1 e2 e3; exact ⟨hc1, hc2, fun h => by cases h⟩)
  have HTF0 := Lib.hid (show ∀ W', Below w.heap.size w W' → Tbs W'.heap.size W' (.slice (some ad) 1 cf) XL from fun W' h => hT1 _ _ (HL.out W' h).r2)
  have HBW1 := Lib.hid (HBW.out.trans (hb1.mono HBW.out.size))
  have BL1 := Lib.hid (BL.out.below hb1)
  have BR1 := Lib.hid (BR.out.below hb1)
  have HFF := HFF0
  have HTF := HTF0
  clear hT1 hsrc hXL HFF0 HTF0 HBW BL BR hb1 HBH hc1 hc2 k5 hblz0
  revert W1
  intro W HBW BL BR
  have hx1 : 0 < XL.length := by rw [← HXL.out]; exact srcP_pos _ hpos
  have hx2 : XL.length ≤ 1048576 := by rw [← HXL.out]; exact srcP_len (by decide) hlens 2 _
  have hxin : Hid (∀ x ∈ XL, TblIn x) := fun x h => HIN.out x (by rw [← HXL.out] at h; exact srcP_mem h)
  obtain ⟨sp, hsp⟩ : ∃ sp, spanP XL = sp := ⟨_, rfl⟩
  have HSP := Lib.hid hsp
  have HSO := Lib.hid (fun W (h : Below w.heap.size w W) => spanOf_any (.slice (some ad) 1 cf) XL W (HTF.out _ h) (fun a n c e => ⟨(HFF.out a n c e).1, (HFF.out a n c e).2.1⟩) (by omega) hx1)
  rw [hsp] at HSO
  obtain ⟨lo, hi⟩ := sp
  have HTO := Lib.hid (fun W (h : Below w.heap.size w W) => touched_any (.slice a3 n3 c3) (l.t.getD 3 []) lo hi W (HL.out _ h).r3 (by have := Mf.getD_le hlens 3; omega))
  obtain ⟨YL, hYL⟩ : ∃ YL, overP lo hi (l.t.getD 3 []) = YL := ⟨_, rfl⟩
  have hy2 : YL.length ≤ 1048576 := by rw [← hYL]; exact Nat.le_trans (overP_len _ _ _) (Mf.getD_le hlens 3)
  have hyin : Hid (∀ x ∈ YL, TblIn x) := fun x h => HIN.out x (by rw [← hYL] at h; exact ⟨3, (List.mem_filter.1 h).1⟩)
  rw [hYL] at HTO
  have HYL := Lib.hid hYL
  have hblz := BL.out.lt
  have k6 := BL.out.cell 6
  simp at k6
  clear hsp hYL
  go_upto_region 4 with fail
  go_cut [8] from 20 to 27 (fun r wx => RowOut W.heap.size YL W r wx)
  case first =>
    go_region_with (first
      | (go_at_call 77; (with_reducible refine (HSO.out _ HBW.out.drew).mono ?_); rintro e w1 ⟨rfl, hb1⟩; have hb1w : Below W.heap.size W w1 := (by exact (Below.refl _ _).drew.trans hb1); have HB1 := Lib.hid (HBW.out.trans (hb1w.mono HBW.out.size)); have k1 := (BL.out.below hb1w).cell 6; simp at k1)
      | (go_at_call 78; (with_reducible refine (HTO.out _ HB1.out).mono ?_); rintro e w2 ⟨rv, rfl, hO2, hb2⟩; have HO2 := Lib.hid (show RowOut W.heap.size YL W rv w2 from ⟨Mf.lowerR hO2 hb1w.size, hb1w.trans (hb2.mono hb1w.size)⟩); clear hO2 hb2))
    all_goals (try go_wp2_with fail)
    all_goals go_meet
    all_goals exact HO2.out
  case rest =>
    obtain ⟨hO4, hb4⟩ := hcut
    obtain ⟨a8, c8, hr8, _⟩ := Sq.row_cases hO4
    subst hr8
    have HO4 := Lib.hid hO4
    have HB4 := Lib.hid (HBW.out.trans (hb4.mono HBW.out.size))
    have HW4 := Lib.hid hb4
    have BL4 := Lib.hid (BL.out.below hb4)
    have BR4 := Lib.hid (BR.out.below hb4)
    clear hO4 hb4 k6 HTO HSO
    obtain ⟨w5, hw5⟩ : ∃ w5, wc.alloc (.cells #[.slice (some ad) 1 cf, .slice a8 YL.length c8] 24) = w5 := ⟨_, rfl⟩
    have HB5 := Lib.hid (show Below w.heap.size w w5 by rw [← hw5]; exact HB4.out.alloc HB4.out.size _)
    have hw45 : Below wc.heap.size wc w5 := by rw [← hw5]; exact (Below.refl _ _).alloc (Nat.le_refl _) _
    have hO5 := Ob.Obj.new wc 24 [.slice (some ad) 1 cf, .slice a8 YL.length c8]
    change Ob.Obj (wc.alloc (.cells #[.slice (some ad) 1 cf, .slice a8 YL.length c8] 24)) wc.heap.size 24 [.slice (some ad) 1 cf, .slice a8 YL.length c8] at hO5
    rw [hw5] at hO5
    have hR5 : RowsIn w5.heap.size w5 (some ⟨wc.heap.size, 0, none⟩) wc.heap.size 0 [.slice (some ad) 1 cf, .slice a8 YL.length c8] [XL, YL] := by
      refine ⟨fun _ => ⟨rfl, hO5.lt⟩, rfl, fun j h h2 => ?_, fun j h2 n c e => ?_⟩
      · have hj : j = 0 ∨ j = 1 := by simp at h; omega
        rcases hj with rfl | rfl
        · exact ⟨hO5.cell 0, HTF.out _ HB5.out⟩
        · exact ⟨hO5.cell 1, tbs_of_own (own_below (Mf.lowerR HO4.out (Nat.le_refl _)) hw45)⟩
      · have hj : j = 0 ∨ j = 1 := by simp at h2; omega
        rcases hj with rfl | rfl
        · exact (HFF.out none n c e).2.2 rfl
        · exact (fine_of_row HO4.out none n c e).2.2 rfl
    have HCC := Lib.hid (show Calls Try.prog 44 #[.slice (some ⟨wc.heap.size, 0, none⟩) 2 2] w5 fun e w' => ∃ r, e = .returned r ∧ w'.ownsRow w5.heap.size 38 6 r [XL, YL].flatten.length (tcs [XL, YL].flatten) ∧ Below w5.heap.size w5 w' from concat_any (some ⟨wc.heap.size, 0, none⟩) 2 wc.heap.size 0 [.slice (some ad) 1 cf, .slice a8 YL.length c8] [XL, YL] w5 hR5 (by simp [sumL]; omega) (by simp))
    have hfl : [XL, YL].flatten = XL ++ YL := by simp
    rw [hfl] at HCC
    obtain ⟨ZL, hZL⟩ : ∃ ZL, XL ++ YL = ZL := ⟨_, rfl⟩
    have hzl : 0 < ZL.length ∧ ZL.length ≤ 2097152 := by rw [← hZL, List.length_append]; omega
    rw [hZL] at HCC
    have HZL := Lib.hid hZL
    obtain ⟨sp2, hsp2⟩ : ∃ sp, spanP ZL = sp := ⟨_, rfl⟩
    have HSP2 := Lib.hid hsp2
    obtain ⟨lo2, hi2⟩ := sp2
    have HS5 := Lib.hid (fun (v : Value) (W : World) (hV : Tbs W.heap.size W v ZL) (hf : FineV v) => show Calls Try.prog 77 #[v] W fun e w' => e = .returned (.agg #[.string (Cd.bs lo2), .string (Cd.bs hi2)]) ∧ Below W.heap.size W w' from by have h := spanOf_any v ZL W hV (fun a n c e => ⟨(hf a n c e).1, (hf a n c e).2.1⟩) (by omega) hzl.1; rw [hsp2] at h; exact h)
    have HW5 := Lib.hid hw5
    have HW45 := Lib.hid hw45
    clear hR5 hfl hZL hsp2 hO5 hw5 hw45
    go_upto_region 6 with (first
      | (go_at_call 44; rw [HW5.out]; (with_reducible refine HCC.out.mono ?_); rintro e w6 ⟨r6, rfl, hO6, hb6⟩; have HT6 := Lib.hid (tbs_of_own hO6); have HF6 := Lib.hid (fine_of_row hO6); have HB6 := Lib.hid (HB5.out.trans (hb6.mono HB5.out.size)); have HW6 := Lib.hid (HW45.out.trans (hb6.mono HW45.out.size)); obtain ⟨a6, c6, rfl, _⟩ := Sq.row_cases hO6; clear hO6 hb6)
      | (go_at_call 77; (with_reducible refine (HS5.out _ _ HT6.out HF6.out).mono ?_); rintro e w7 ⟨rfl, hb7⟩; have HB7 := Lib.hid (HB6.out.trans (hb7.mono HB6.out.size)); have HW7 := Lib.hid (HW6.out.trans (hb7.mono HW6.out.size)); clear hb7))
    obtain ⟨w8, hw8⟩ : ∃ w8, w7.alloc (.cells #[.string (Cd.bs lo2), .string (Cd.bs hi2)] 130) = w8 := ⟨_, rfl⟩
    obtain ⟨bs, hbs⟩ : ∃ bs, w7.heap.size = bs := ⟨_, rfl⟩
    have sp8 : Ob.Obj w8 bs 130 [.string (Cd.bs lo2), .string (Cd.bs hi2)] := by rw [← hw8, ← hbs]; exact Ob.Obj.new w7 _ _
    have hb8 : Below wc.heap.size wc w8 := by rw [← hw8]; exact HW7.out.alloc HW7.out.size _
    have HB9 := Lib.hid (show Below w.heap.size w w8 from HB4.out.trans (hb8.mono HB4.out.size))
    have bl9 := BL4.out.below hb8
    have BL9 := Lib.hid bl9
    have BR9 := Lib.hid (BR4.out.below hb8)
    have HO9 := Lib.hid (own_below HO4.out hb8)
    have SP9 := Lib.hid sp8
    rw [hw8, hbs]
    clear hw8 hbs HB6 HB7 HW6 HW7 HT6 HF6 HCC HS5 HW5 HW45 HB5 BL4 BR4
    have hR9 : RowsIn w8.heap.size w8 (some ⟨w.heap.size, 3, none⟩) w.heap.size 3 [] [] := by
      exact ⟨fun h => absurd h (by simp), rfl, fun j h => absurd h (by simp), fun j h => absurd h (by simp)⟩
    have hfl9 : ([] : List (List Tbl)) = l.t.drop 4 := by
      match hq : l.t, ht4 with
      | [q0, q1, q2, q3], _ => rfl
    have HC9 := Lib.hid (show Calls Try.prog 44 #[.slice (some ⟨w.heap.size, 3, none⟩) 0 0] w8 fun e w' => ∃ r, e = .returned r ∧ w'.ownsRow w8.heap.size 38 6 r ([] : List (List Tbl)).flatten.length (tcs ([] : List (List Tbl)).flatten) ∧ Below w8.heap.size w8 w' from concat_any (some ⟨w.heap.size, 3, none⟩) 0 w.heap.size 3 [] [] w8 hR9 (by have h2 := Mf.getD_le hlens 2; have h3 := Mf.getD_le hlens 3; simp only [List.getD_eq_getElem?_getD] at h2 h3; simp [sumL]; try omega) (by simp))
    obtain ⟨DL, hDL⟩ : ∃ DL, ([] : List (List Tbl)).flatten = DL := ⟨_, rfl⟩
    have hdl : DL.length ≤ 4194304 := by rw [← hDL]; have h2 := Mf.getD_le hlens 2; have h3 := Mf.getD_le hlens 3; simp only [List.getD_eq_getElem?_getD] at h2 h3; simp; try omega
    have HDL := Lib.hid (show (l.t.drop 4).flatten = DL by rw [← hfl9]; exact hDL)
    rw [hDL] at HC9
    have hblz9 := bl9.lt
    clear hR9 hfl9 hDL sp8 bl9
    go_upto_region 7 with (go_at_call 44; (with_reducible refine HC9.out.mono ?_); rintro e wX ⟨rX, rfl, hOX, hbX⟩)
    obtain ⟨aX, cX, rfl, _⟩ := Sq.row_cases hOX
    have HBX := Lib.hid (HB9.out.trans (hbX.mono HB9.out.size))
    have HX8 := Lib.hid hbX
    have HTX := Lib.hid (tbs_of_own hOX)
    have HO7 := Lib.hid (own_below HO9.out hbX)
    have SPX := Lib.hid (SP9.out.below hbX)
    have BRX := Lib.hid (BR9.out.below hbX)
    have hbrX : br < wX.heap.size := BRX.out.lt
    have hbsX : bs < wX.heap.size := SPX.out.lt
    have hbs8 : wc.heap.size ≤ wX.heap.size := Nat.le_trans hb8.size hbX.size
    have HW1 := Lib.hid (fun W (h : Below wX.heap.size wX W) => own_any (.slice (some ad) 1 cf) XL W (HTF.out W (HBX.out.trans (h.mono HBX.out.size))) (fun n c e => (HFF.out none n c e).2.2 rfl) hx2 hxin.out)
    have HW2 := Lib.hid (fun W (h : Below wX.heap.size wX W) => own_any (.slice a8 YL.length c8) YL W (tbs_of_own (own_below HO7.out h)) (fun n c e => (fine_of_row HO7.out none n c e).2.2 rfl) hy2 hyin.out)
    have HW3 := Lib.hid (fun W (h : Below wX.heap.size wX W) => touched_any (.slice aX DL.length cX) DL lo2 hi2 W (HTX.out.grow h h.size) hdl)
    obtain ⟨ML, hML⟩ : ∃ M, overP lo2 hi2 DL = M := ⟨_, rfl⟩
    rw [hML] at HW3
    have HJ := Lib.hid (show jobP l.t 2 key = ⟨2, XL, YL, ML.isEmpty⟩ by
      have hs : srcP l.t 2 key = XL := HXL.out
      have hd : dstP l.t 2 key = YL := by unfold dstP; rw [hs, HSP.out]; exact HYL.out
      have hbt : botP l.t 2 key = ML.isEmpty := by unfold botP; rw [hs, hd, HZL.out, HSP2.out]; simp only; rw [HDL.out, hML]
      unfold jobP
      rw [hs, hd, hbt]
      rfl)
    have hM0 : ((ML.length : Int) == 0) = ML.isEmpty := by
      cases ML with
      | nil => rfl
      | cons a r => simp; omega
    have s0 := SPX.out.cell 0
    have s1 := SPX.out.cell 1
    simp at s0 s1
    have tok : True := trivial
    clear hOX hbX hML HO9 SP9 BR9 BL9 HC9 hb8 HTX
    generalize ML.isEmpty = mz at *
    go_region_with (first
      | (go_at_call 79; have _t := tok; clear _t tok; (with_reducible refine (HW1.out _ (by exact (Below.refl _ _).drew)).mono ?_); rintro e w1 ⟨v1, rfl, hP1, hb1⟩; obtain ⟨p1, q1, rfl, _⟩ := Sq.row_cases hP1; have hX1 : Below wX.heap.size wX w1 := (by exact (Below.refl _ _).drew.trans hb1); have HP1 := Lib.hid (show w1.ownsRow wX.heap.size 38 6 (.slice p1 XL.length q1) XL.length (tcs XL) from hP1); have sp1 := SPX.out.below hX1; have s0 := sp1.cell 0; have s1 := sp1.cell 1; simp at s0 s1; have hbs1 := sp1.lt; clear hP1 sp1 hb1)
      | (go_at_call 79; (with_reducible refine (HW2.out _ hX1).mono ?_); rintro e w2 ⟨v2, rfl, hP2, hb2⟩; obtain ⟨p2, q2, rfl, _⟩ := Sq.row_cases hP2; have hX2 := hX1.trans (hb2.mono hX1.size); have HP1 := Lib.hid (own_below HP1.out hb2); have HP2 := Lib.hid (Mf.lowerR hP2 hX1.size); have sp2 := SPX.out.below hX2; have s0 := sp2.cell 0; have s1 := sp2.cell 1; simp at s0 s1; have hbs2 := sp2.lt; clear hP2 sp2 hb2)
      | (go_at_call 78; (with_reducible refine (HW3.out _ hX2).mono ?_); rintro e w3 ⟨v3, rfl, hP3, hb3⟩; obtain ⟨p3, q3, rfl, _⟩ := Sq.row_cases hP3; have hX3 := hX2.trans (hb3.mono hX2.size); have HQ1 := Lib.hid (own_below HP1.out hb3); have HQ2 := Lib.hid (own_below HP2.out hb3); have br3 := BRX.out.below hX3; have BR3 := Lib.hid br3; have r0 := br3.cell 0; have f0 := br3.frozen 0; have r1 := br3.cell 1; have f1 := br3.frozen 1; have r2 := br3.cell 2; have f2 := br3.frozen 2; have r3 := br3.cell 3; have f3 := br3.frozen 3; simp at r0 r1 r2 r3; have hbr3 := br3.lt; clear hP3 hb3 br3))
    all_goals (try go_wp2_with fail)
    all_goals
      have hz := (((BR3.out.set 0 (.int .i64 2)).set 1 (.slice p1 XL.length q1)).set 2 (.slice p2 YL.length q2)).set 3 (.bool mz)
      have hx := row1 (b := br) (o := 3) (row1 (b := br) (o := 2) (row1 (b := br) (o := 1) (row1 (b := br) (o := 0) HQ1.out hbrX (.int .i64 2)) hbrX (.slice p1 XL.length q1)) hbrX (.slice p2 YL.length q2)) hbrX (.bool mz)
      have hy := row1 (b := br) (o := 3) (row1 (b := br) (o := 2) (row1 (b := br) (o := 1) (row1 (b := br) (o := 0) HQ2.out hbrX (.int .i64 2)) hbrX (.slice p1 XL.length q1)) hbrX (.slice p2 YL.length q2)) hbrX (.bool mz)
      have hbz := ((((HBX.out.trans (hX3.mono HBX.out.size)).setCell (p := ⟨br, 0, none⟩) (Nat.le_of_lt hord) (.int .i64 2)).setCell (p := ⟨br, 1, none⟩) (Nat.le_of_lt hord) (.slice p1 XL.length q1)).setCell (p := ⟨br, 2, none⟩) (Nat.le_of_lt hord) (.slice p2 YL.length q2)).setCell (p := ⟨br, 3, none⟩) (Nat.le_of_lt hord) (.bool mz)
      have z0 := hz.cell 0
      have z1 := hz.cell 1
      have z2 := hz.cell 2
      have z3 := hz.cell 3
      simp at z0 z1 z2 z3
      generalize ((((w3.setCell ⟨br, 0, none⟩ (.int .i64 2)).setCell ⟨br, 1, none⟩ (.slice p1 XL.length q1)).setCell ⟨br, 2, none⟩ (.slice p2 YL.length q2)).setCell ⟨br, 3, none⟩ (.bool mz)) = wZ at *
      exact bodyPost_ret (v := .agg #[.int .i64 2, .slice p1 XL.length q1, .slice p2 YL.length q2, .bool mz]) (by simp [results, Try.results48, go_sem, z0, z1, z2, z3]) rfl ⟨_, _, by rw [HJ.out]; rfl, by rw [HJ.out]; exact Mf.lowerR hx HBX.out.size, by rw [HJ.out]; exact Mf.lowerR hy HBX.out.size, hbz⟩
end Cp
end Go.Proofs.Ytpldfdlnhgmnaaa

/-
  compact: Pick.
-/
namespace Go.Proofs.Ytpldfdlnhgmnaaa
open Go.RowKit
set_option linter.unusedSimpArgs false
set_option linter.unusedVariables false
namespace Cp
open Op (bytesLess)
open Mf (Tbl Lv lvV LvIn Tbs TAt TblIn uA box_lev tcs tbs_of_own)
open Md10 (setCell_self)
theorem due3 (c : Cfg) (t : List (List Tbl)) : isDue c t 3 = false := by
  unfold isDue
  rw [scoreP_no (by unfold wt; simp)]
  simp

set_option maxRecDepth 1000000 in
set_option maxHeartbeats 40000000 in
theorem pick_any (c : Cfg) (l : Lv) (a0 a1 a2 a3 : Option Addr) (n0 n1 n2 n3 c0 c1 c2 c3 : Nat) (A : Nat → List UInt8) (w : World) (hL : LvIn w.heap.size w l (.slice a0 n0 c0) (.slice a1 n1 c1) (.slice a2 n2 c2) (.slice a3 n3 c3)) (hS : ∀ r ∈ l.t, Siz r) (HF : Hid (FineV (.slice a0 n0 c0) ∧ FineV (.slice a1 n1 c1) ∧ FineV (.slice a2 n2 c2) ∧ FineV (.slice a3 n3 c3))) (HIN : Hid (∀ x, (∃ j, x ∈ l.t.getD j []) → TblIn x)) :
    Calls Try.prog 22 #[cfgV c, lvV l (.slice a0 n0 c0) (.slice a1 n1 c1) (.slice a2 n2 c2) (.slice a3 n3 c3), .agg #[.string (Cd.bs (A 0)), .string (Cd.bs (A 1)), .string (Cd.bs (A 2)), .string (Cd.bs (A 3))]] w fun e w' => ∃ x y, e = .returned (.tuple #[jobV (pickP c l.t A).1 x y, .bool (pickP c l.t A).2]) ∧ w'.ownsRow w.heap.size 38 6 x (pickP c l.t A).1.src.length (tcs (pickP c l.t A).1.src) ∧ w'.ownsRow w.heap.size 38 6 y (pickP c l.t A).1.dst.length (tcs (pickP c l.t A).1.dst) ∧ Below w.heap.size w w' := by
  have HL := Lib.hid (fun W (h : Below w.heap.size w W) => hL.grow h h.size)
  have HSC := Lib.hid (fun (k : Int) (W : World) (h : Below w.heap.size w W) => score_any c l (.slice a0 n0 c0) (.slice a1 n1 c1) (.slice a2 n2 c2) (.slice a3 n3 c3) k W (hL.grow h h.size) hS)
  have hlens := hL.len
  have HPK := Lib.hid (show ∀ k, k < 3 → (∀ j, j < k → isDue c l.t j = false) → isDue c l.t k = true → pickP c l.t A = (jobP l.t k (A k), true) from fun k hk hn h => by unfold pickP; rw [due_at hk hn h, if_neg (by omega)])
  have HPN := Lib.hid (show (∀ j, j < 3 → isDue c l.t j = false) → pickP c l.t A = (⟨0, [], [], false⟩, false) from fun hn => by unfold pickP; rw [due_none hn, if_pos rfl])
  have HDP := Lib.hid (fun k (hk : k < 3) h => due_pos (c := c) (t := l.t) hk h)
  have HD3 := Lib.hid (due3 c l.t)
  have HDU := Lib.hid (show ∀ k : Nat, isDue c l.t k = decide ((scoreP c l.t k).2 < (scoreP c l.t k).1) from fun k => rfl)
  obtain ⟨x0, x1, x2, x3, x4, x5, x6, x7⟩ := c
  unfold cfgV lvV at *
  simp only at HSC ⊢
  obtain ⟨wA, hA⟩ : ∃ wA, w.alloc (.cells #[.int .i64 x0, .int .i64 x1, .int .i64 x2, .int .i64 x3, .int .i64 x4, .int .i64 x5, .int .i64 x6, .int .u64 x7] 50) = wA := ⟨_, rfl⟩
  have bA : Below w.heap.size w wA := by rw [← hA]; exact (Below.refl _ _).alloc (Nat.le_refl _) _
  have xA : Ob.Obj wA w.heap.size 50 [.int .i64 x0, .int .i64 x1, .int .i64 x2, .int .i64 x3, .int .i64 x4, .int .i64 x5, .int .i64 x6, .int .u64 x7] := by rw [← hA]; exact Ob.Obj.new w _ [.int .i64 x0, .int .i64 x1, .int .i64 x2, .int .i64 x3, .int .i64 x4, .int .i64 x5, .int .i64 x6, .int .u64 x7]
  obtain ⟨bl, hbl⟩ : ∃ j, wA.heap.size = j := ⟨_, rfl⟩
  obtain ⟨wB, hB⟩ : ∃ wB, wA.alloc (.cells #[.int .u64 l.next, .int .u64 l.seq, .int .u64 l.log, .slice a0 n0 c0, .slice a1 n1 c1, .slice a2 n2 c2, .slice a3 n3 c3] 27) = wB := ⟨_, rfl⟩
  have bB : Below w.heap.size w wB := by rw [← hB]; exact bA.alloc bA.size _
  have yB : Ob.Obj wB bl 27 [.int .u64 l.next, .int .u64 l.seq, .int .u64 l.log, .slice a0 n0 c0, .slice a1 n1 c1, .slice a2 n2 c2, .slice a3 n3 c3] := by rw [← hB, ← hbl]; exact Ob.Obj.new wA _ [.int .u64 l.next, .int .u64 l.seq, .int .u64 l.log, .slice a0 n0 c0, .slice a1 n1 c1, .slice a2 n2 c2, .slice a3 n3 c3]
  have xB : Ob.Obj wB w.heap.size 50 [.int .i64 x0, .int .i64 x1, .int .i64 x2, .int .i64 x3, .int .i64 x4, .int .i64 x5, .int .i64 x6, .int .u64 x7] := by rw [← hB]; exact xA.alloc _
  obtain ⟨ba, hba⟩ : ∃ j, wB.heap.size = j := ⟨_, rfl⟩
  obtain ⟨wC, hC⟩ : ∃ wC, wB.alloc (.cells #[.string (Cd.bs (A 0)), .string (Cd.bs (A 1)), .string (Cd.bs (A 2)), .string (Cd.bs (A 3))] 51) = wC := ⟨_, rfl⟩
  have bC : Below w.heap.size w wC := by rw [← hC]; exact bB.alloc bB.size _
  have zC : Ob.Obj wC ba 51 [.string (Cd.bs (A 0)), .string (Cd.bs (A 1)), .string (Cd.bs (A 2)), .string (Cd.bs (A 3))] := by rw [← hC, ← hba]; exact Ob.Obj.new wB _ [.string (Cd.bs (A 0)), .string (Cd.bs (A 1)), .string (Cd.bs (A 2)), .string (Cd.bs (A 3))]
  have yC : Ob.Obj wC bl 27 [.int .u64 l.next, .int .u64 l.seq, .int .u64 l.log, .slice a0 n0 c0, .slice a1 n1 c1, .slice a2 n2 c2, .slice a3 n3 c3] := by rw [← hC]; exact yB.alloc _
  have xC : Ob.Obj wC w.heap.size 50 [.int .i64 x0, .int .i64 x1, .int .i64 x2, .int .i64 x3, .int .i64 x4, .int .i64 x5, .int .i64 x6, .int .u64 x7] := by rw [← hC]; exact xB.alloc _
  obtain ⟨br, hbr⟩ : ∃ j, wC.heap.size = j := ⟨_, rfl⟩
  obtain ⟨wD, hD⟩ : ∃ wD, wC.alloc (.cells #[.int .i64 0, .slice none 0 0, .slice none 0 0, .bool false] 56) = wD := ⟨_, rfl⟩
  have bD : Below w.heap.size w wD := by rw [← hD]; exact bC.alloc bC.size _
  have rD : Ob.Obj wD br 56 [.int .i64 0, .slice none 0 0, .slice none 0 0, .bool false] := by rw [← hD, ← hbr]; exact Ob.Obj.new wC _ [.int .i64 0, .slice none 0 0, .slice none 0 0, .bool false]
  have zD : Ob.Obj wD ba 51 [.string (Cd.bs (A 0)), .string (Cd.bs (A 1)), .string (Cd.bs (A 2)), .string (Cd.bs (A 3))] := by rw [← hD]; exact zC.alloc _
  have yD : Ob.Obj wD bl 27 [.int .u64 l.next, .int .u64 l.seq, .int .u64 l.log, .slice a0 n0 c0, .slice a1 n1 c1, .slice a2 n2 c2, .slice a3 n3 c3] := by rw [← hD]; exact yC.alloc _
  have xD : Ob.Obj wD w.heap.size 50 [.int .i64 x0, .int .i64 x1, .int .i64 x2, .int .i64 x3, .int .i64 x4, .int .i64 x5, .int .i64 x6, .int .u64 x7] := by rw [← hD]; exact xC.alloc _
  have hord : w.heap.size < bl ∧ bl < ba ∧ ba < br ∧ br < wD.heap.size := ⟨by have := xA.lt; omega, by have := yB.lt; omega, by have := zC.lt; omega, rD.lt⟩
  clear bA xA bB yB xB bC zC yC xC hL
  go_enter Try.func22, Try.ntmps22
  go_wp2_with fail
  clear hA hB hC hD hbl hba hbr
  go_loopw [11] (fun i wr => ∃ k : Nat, k ≤ 4 ∧ i = .int .i64 (k : Int) ∧ Hid (∀ j, j < k → isDue ⟨x0, x1, x2, x3, x4, x5, x6, x7⟩ l.t j = false) ∧ Below wD.heap.size wD wr) (fun i _ => 4 - (intOf i).toNat)
  case atStart => exact ⟨0, by omega, rfl, fun j hj => by omega, Below.refl _ _⟩
  case round =>
    obtain ⟨k, hk, rfl, hno, hB⟩ := hrel
    obtain ⟨wk, rfl⟩ : ∃ wk : World, wk = wr := ⟨_, rfl⟩
    have bk := bD.trans (hB.mono bD.size)
    have rk := rD.below hB
    have yk := yD.below hB
    have zk := zD.below hB
    have xk := xD.below hB
    by_cases hlt : k < 4
    · have hi0 : (k : Int) < 4 := by omega
      have k0 := xk.cell 0; have k1 := xk.cell 1; have k2 := xk.cell 2; have k3 := xk.cell 3; have k4 := xk.cell 4; have k5 := xk.cell 5; have k6 := xk.cell 6; have k7 := xk.cell 7; simp at k0 k1 k2 k3 k4 k5 k6 k7
      have l0 := yk.cell 0; have l1 := yk.cell 1; have l2 := yk.cell 2; have l3 := yk.cell 3; have l4 := yk.cell 4; have l5 := yk.cell 5; have l6 := yk.cell 6; simp at l0 l1 l2 l3 l4 l5 l6
      have hxz := xk.lt
      have hyz := yk.lt
      have HS4 := Lib.hid (HSC.out (k : Int) wk bk)
      have HDK := Lib.hid (HDU.out k)
      obtain ⟨s1, hs1⟩ : ∃ s, (scoreP ⟨x0, x1, x2, x3, x4, x5, x6, x7⟩ l.t (k : Int)).1 = s := ⟨_, rfl⟩
      obtain ⟨s2, hs2⟩ : ∃ s, (scoreP ⟨x0, x1, x2, x3, x4, x5, x6, x7⟩ l.t (k : Int)).2 = s := ⟨_, rfl⟩
      rw [hs1, hs2] at HS4 HDK
      clear hs1 hs2
      go_upto_region 5 with (go_at_call 20; (with_reducible refine HS4.out.mono ?_); rintro e w4 ⟨rfl, hb4⟩)
      clear k0 k1 k2 k3 k4 k5 k6 k7 l0 l1 l2 l3 l4 l5 l6
      have b4 := bk.trans (hb4.mono bk.size)
      have hB4 := hB.trans (hb4.mono hB.size)
      by_cases hdu : s2 < s1
      · have hdue : Hid (isDue ⟨x0, x1, x2, x3, x4, x5, x6, x7⟩ l.t k = true) := HDK.out.trans (decide_eq_true hdu)
        have hk3 : k < 3 := by
          by_cases h3 : k = 3
          · subst h3; have := hdue.out; rw [HD3.out] at this; cases this
          · omega
        have hpos := HDP.out k hk3 hdue.out
        have HPK2 := Lib.hid (HPK.out k hk3 hno.out hdue.out)
        have y4 := yk.below hb4
        have r4 := rk.below hb4
        have z4 := zk.below hb4
        have l0 := y4.cell 0; have l1 := y4.cell 1; have l2 := y4.cell 2; have l3 := y4.cell 3; have l4 := y4.cell 4; have l5 := y4.cell 5; have l6 := y4.cell 6; simp at l0 l1 l2 l3 l4 l5 l6
        have hyz4 := y4.lt
        clear hno rk yk zk xk hb4 hB HS4 HDK hB4 bk hdue
        have hk012 : k = 0 ∨ k = 1 ∨ k = 2 := by omega
        clear hk hlt hk3 hxz hyz
        rcases hk012 with rfl | rfl | rfl
        ·
          have HJ := Lib.hid (fun W (h : Below w.heap.size w W) => job0_any l a0 a1 a2 a3 n0 n1 n2 n3 c0 c1 c2 c3 (A 0) W (HL.out W h) HF hpos HIN)
          obtain ⟨jb, hjb⟩ : ∃ jb, jobP l.t 0 (A 0) = jb := ⟨_, rfl⟩
          have hjl : jb.lev = 0 := by rw [← hjb]; rfl
          rw [hjb] at HJ HPK2
          clear hjb
          obtain ⟨jl, XL, YL, bb⟩ := jb
          simp only at hjl
          subst hjl
          have a0 := z4.cell 0
          simp at a0
          have hz4 := z4.lt
          have BR := Lib.hid r4
          have hb4d : Below w.heap.size w w4.drew := b4.drew
          have hbrw : w.heap.size ≤ br := by omega
          unfold jobV lvV at HJ
          clear z4 r4 y4
          go_upto_region 6 with fail
          go_region_with (go_at_call 48; (with_reducible refine (HJ.out _ hb4d).mono ?_); rintro e w6 ⟨vx, vy, rfl, hx, hy, hb6⟩; obtain ⟨p1, q1, rfl, _⟩ := Sq.row_cases hx; obtain ⟨p2, q2, rfl, _⟩ := Sq.row_cases hy; have hX3 : Below w4.heap.size w4 w6 := (by exact (Below.refl _ _).drew.trans hb6); have HQ1 := Lib.hid (show w6.ownsRow w4.heap.size 38 6 (.slice p1 XL.length q1) XL.length (tcs XL) from hx); have HQ2 := Lib.hid (show w6.ownsRow w4.heap.size 38 6 (.slice p2 YL.length q2) YL.length (tcs YL) from hy); have br3 := BR.out.below hX3; have BR3 := Lib.hid br3; have r0 := br3.cell 0; have f0 := br3.frozen 0; have r1 := br3.cell 1; have f1 := br3.frozen 1; have r2 := br3.cell 2; have f2 := br3.frozen 2; have r3 := br3.cell 3; have f3 := br3.frozen 3; simp at r0 r1 r2 r3; have hbr3 := br3.lt; clear hx hy hb6 br3)
          all_goals (try go_wp2_with fail)
          all_goals
            have hbrX := BR.out.lt
            have hz := (((BR3.out.set 0 (.int .i64 0)).set 1 (.slice p1 XL.length q1)).set 2 (.slice p2 YL.length q2)).set 3 (.bool bb)
            have hx := row1 (b := br) (o := 3) (row1 (b := br) (o := 2) (row1 (b := br) (o := 1) (row1 (b := br) (o := 0) HQ1.out hbrX (.int .i64 0)) hbrX (.slice p1 XL.length q1)) hbrX (.slice p2 YL.length q2)) hbrX (.bool bb)
            have hy := row1 (b := br) (o := 3) (row1 (b := br) (o := 2) (row1 (b := br) (o := 1) (row1 (b := br) (o := 0) HQ2.out hbrX (.int .i64 0)) hbrX (.slice p1 XL.length q1)) hbrX (.slice p2 YL.length q2)) hbrX (.bool bb)
            have hbz := ((((b4.trans (hX3.mono b4.size)).setCell (p := ⟨br, 0, none⟩) hbrw (.int .i64 0)).setCell (p := ⟨br, 1, none⟩) hbrw (.slice p1 XL.length q1)).setCell (p := ⟨br, 2, none⟩) hbrw (.slice p2 YL.length q2)).setCell (p := ⟨br, 3, none⟩) hbrw (.bool bb)
            have z0 := hz.cell 0
            have z1 := hz.cell 1
            have z2 := hz.cell 2
            have z3 := hz.cell 3
            simp at z0 z1 z2 z3
            generalize ((((w6.setCell ⟨br, 0, none⟩ (.int .i64 0)).setCell ⟨br, 1, none⟩ (.slice p1 XL.length q1)).setCell ⟨br, 2, none⟩ (.slice p2 YL.length q2)).setCell ⟨br, 3, none⟩ (.bool bb)) = wZ at *
            exact bodyPost_ret (v := .tuple #[.agg #[.int .i64 0, .slice p1 XL.length q1, .slice p2 YL.length q2, .bool bb], .bool true]) (by simp [results, Try.results22, go_sem, z0, z1, z2, z3]) rfl ⟨_, _, by rw [HPK2.out]; rfl, by rw [HPK2.out]; exact Mf.lowerR hx b4.size, by rw [HPK2.out]; exact Mf.lowerR hy b4.size, hbz⟩
        ·
          have HJ := Lib.hid (fun W (h : Below w.heap.size w W) => job1_any l a0 a1 a2 a3 n0 n1 n2 n3 c0 c1 c2 c3 (A 1) W (HL.out W h) HF hpos HIN)
          obtain ⟨jb, hjb⟩ : ∃ jb, jobP l.t 1 (A 1) = jb := ⟨_, rfl⟩
          have hjl : jb.lev = 1 := by rw [← hjb]; rfl
          rw [hjb] at HJ HPK2
          clear hjb
          obtain ⟨jl, XL, YL, bb⟩ := jb
          simp only at hjl
          subst hjl
          have a1 := z4.cell 1
          simp at a1
          have hz4 := z4.lt
          have BR := Lib.hid r4
          have hb4d : Below w.heap.size w w4.drew := b4.drew
          have hbrw : w.heap.size ≤ br := by omega
          unfold jobV lvV at HJ
          clear z4 r4 y4
          go_upto_region 6 with fail
          go_region_with (go_at_call 48; (with_reducible refine (HJ.out _ hb4d).mono ?_); rintro e w6 ⟨vx, vy, rfl, hx, hy, hb6⟩; obtain ⟨p1, q1, rfl, _⟩ := Sq.row_cases hx; obtain ⟨p2, q2, rfl, _⟩ := Sq.row_cases hy; have hX3 : Below w4.heap.size w4 w6 := (by exact (Below.refl _ _).drew.trans hb6); have HQ1 := Lib.hid (show w6.ownsRow w4.heap.size 38 6 (.slice p1 XL.length q1) XL.length (tcs XL) from hx); have HQ2 := Lib.hid (show w6.ownsRow w4.heap.size 38 6 (.slice p2 YL.length q2) YL.length (tcs YL) from hy); have br3 := BR.out.below hX3; have BR3 := Lib.hid br3; have r0 := br3.cell 0; have f0 := br3.frozen 0; have r1 := br3.cell 1; have f1 := br3.frozen 1; have r2 := br3.cell 2; have f2 := br3.frozen 2; have r3 := br3.cell 3; have f3 := br3.frozen 3; simp at r0 r1 r2 r3; have hbr3 := br3.lt; clear hx hy hb6 br3)
          all_goals (try go_wp2_with fail)
          all_goals
            have hbrX := BR.out.lt
            have hz := (((BR3.out.set 0 (.int .i64 1)).set 1 (.slice p1 XL.length q1)).set 2 (.slice p2 YL.length q2)).set 3 (.bool bb)
            have hx := row1 (b := br) (o := 3) (row1 (b := br) (o := 2) (row1 (b := br) (o := 1) (row1 (b := br) (o := 0) HQ1.out hbrX (.int .i64 1)) hbrX (.slice p1 XL.length q1)) hbrX (.slice p2 YL.length q2)) hbrX (.bool bb)
            have hy := row1 (b := br) (o := 3) (row1 (b := br) (o := 2) (row1 (b := br) (o := 1) (row1 (b := br) (o := 0) HQ2.out hbrX (.int .i64 1)) hbrX (.slice p1 XL.length q1)) hbrX (.slice p2 YL.length q2)) hbrX (.bool bb)
            have hbz := ((((b4.trans (hX3.mono b4.size)).setCell (p := ⟨br, 0, none⟩) hbrw (.int .i64 1)).setCell (p := ⟨br, 1, none⟩) hbrw (.slice p1 XL.length q1)).setCell (p := ⟨br, 2, none⟩) hbrw (.slice p2 YL.length q2)).setCell (p := ⟨br, 3, none⟩) hbrw (.bool bb)
            have z0 := hz.cell 0
            have z1 := hz.cell 1
            have z2 := hz.cell 2
            have z3 := hz.cell 3
            simp at z0 z1 z2 z3
            generalize ((((w6.setCell ⟨br, 0, none⟩ (.int .i64 1)).setCell ⟨br, 1, none⟩ (.slice p1 XL.length q1)).setCell ⟨br, 2, none⟩ (.slice p2 YL.length q2)).setCell ⟨br, 3, none⟩ (.bool bb)) = wZ at *
            exact bodyPost_ret (v := .tuple #[.agg #[.int .i64 1, .slice p1 XL.length q1, .slice p2 YL.length q2, .bool bb], .bool true]) (by simp [results, Try.results22, go_sem, z0, z1, z2, z3]) rfl ⟨_, _, by rw [HPK2.out]; rfl, by rw [HPK2.out]; exact Mf.lowerR hx b4.size, by rw [HPK2.out]; exact Mf.lowerR hy b4.size, hbz⟩
        ·
          have HJ := Lib.hid (fun W (h : Below w.heap.size w W) => job2_any l a0 a1 a2 a3 n0 n1 n2 n3 c0 c1 c2 c3 (A 2) W (HL.out W h) HF hpos HIN)
          obtain ⟨jb, hjb⟩ : ∃ jb, jobP l.t 2 (A 2) = jb := ⟨_, rfl⟩
          have hjl : jb.lev = 2 := by rw [← hjb]; rfl
          rw [hjb] at HJ HPK2
          clear hjb
          obtain ⟨jl, XL, YL, bb⟩ := jb
          simp only at hjl
          subst hjl
          have a2 := z4.cell 2
          simp at a2
          have hz4 := z4.lt
          have BR := Lib.hid r4
          have hb4d : Below w.heap.size w w4.drew := b4.drew
          have hbrw : w.heap.size ≤ br := by omega
          unfold jobV lvV at HJ
          clear z4 r4 y4
          go_upto_region 6 with fail
          go_region_with (go_at_call 48; (with_reducible refine (HJ.out _ hb4d).mono ?_); rintro e w6 ⟨vx, vy, rfl, hx, hy, hb6⟩; obtain ⟨p1, q1, rfl, _⟩ := Sq.row_cases hx; obtain ⟨p2, q2, rfl, _⟩ := Sq.row_cases hy; have hX3 : Below w4.heap.size w4 w6 := (by exact (Below.refl _ _).drew.trans hb6); have HQ1 := Lib.hid (show w6.ownsRow w4.heap.size 38 6 (.slice p1 XL.length q1) XL.length (tcs XL) from hx); have HQ2 := Lib.hid (show w6.ownsRow w4.heap.size 38 6 (.slice p2 YL.length q2) YL.length (tcs YL) from hy); have br3 := BR.out.below hX3; have BR3 := Lib.hid br3; have r0 := br3.cell 0; have f0 := br3.frozen 0; have r1 := br3.cell 1; have f1 := br3.frozen 1; have r2 := br3.cell 2; have f2 := br3.frozen 2; have r3 := br3.cell 3; have f3 := br3.frozen 3; simp at r0 r1 r2 r3; have hbr3 := br3.lt; clear hx hy hb6 br3)
          all_goals (try go_wp2_with fail)
          all_goals
            have hbrX := BR.out.lt
            have hz := (((BR3.out.set 0 (.int .i64 2)).set 1 (.slice p1 XL.length q1)).set 2 (.slice p2 YL.length q2)).set 3 (.bool bb)
            have hx := row1 (b := br) (o := 3) (row1 (b := br) (o := 2) (row1 (b := br) (o := 1) (row1 (b := br) (o := 0) HQ1.out hbrX (.int .i64 2)) hbrX (.slice p1 XL.length q1)) hbrX (.slice p2 YL.length q2)) hbrX (.bool bb)
            have hy := row1 (b := br) (o := 3) (row1 (b := br) (o := 2) (row1 (b := br) (o := 1) (row1 (b := br) (o := 0) HQ2.out hbrX (.int .i64 2)) hbrX (.slice p1 XL.length q1)) hbrX (.slice p2 YL.length q2)) hbrX (.bool bb)
            have hbz := ((((b4.trans (hX3.mono b4.size)).setCell (p := ⟨br, 0, none⟩) hbrw (.int .i64 2)).setCell (p := ⟨br, 1, none⟩) hbrw (.slice p1 XL.length q1)).setCell (p := ⟨br, 2, none⟩) hbrw (.slice p2 YL.length q2)).setCell (p := ⟨br, 3, none⟩) hbrw (.bool bb)
            have z0 := hz.cell 0
            have z1 := hz.cell 1
            have z2 := hz.cell 2
            have z3 := hz.cell 3
            simp at z0 z1 z2 z3
            generalize ((((w6.setCell ⟨br, 0, none⟩ (.int .i64 2)).setCell ⟨br, 1, none⟩ (.slice p1 XL.length q1)).setCell ⟨br, 2, none⟩ (.slice p2 YL.length q2)).setCell ⟨br, 3, none⟩ (.bool bb)) = wZ at *
            exact bodyPost_ret (v := .tuple #[.agg #[.int .i64 2, .slice p1 XL.length q1, .slice p2 YL.length q2, .bool bb], .bool true]) (by simp [results, Try.results22, go_sem, z0, z1, z2, z3]) rfl ⟨_, _, by rw [HPK2.out]; rfl, by rw [HPK2.out]; exact Mf.lowerR hx b4.size, by rw [HPK2.out]; exact Mf.lowerR hy b4.size, hbz⟩
      · have hdue : Hid (isDue ⟨x0, x1, x2, x3, x4, x5, x6, x7⟩ l.t k = false) := HDK.out.trans (decide_eq_false hdu)
        have HNO : Hid (∀ j, j < k + 1 → isDue ⟨x0, x1, x2, x3, x4, x5, x6, x7⟩ l.t j = false) := fun j hj => by
          by_cases e : j = k
          · subst e; exact hdue.out
          · exact hno.out j (by omega)
        clear hno rk yk zk xk hb4 hB HS4 HDK
        go_wp2_with fail
        go_roundw
        case rel => exact ⟨k + 1, by omega, by go_num, HNO, hB4⟩
        case measure => simp [intOf]; omega
    · obtain rfl : k = 4 := by omega
      have HN := Lib.hid (HPN.out (fun j hj => hno.out j (by omega)))
      have r0 := rk.cell 0; have f0 := rk.frozen 0; have r1 := rk.cell 1; have f1 := rk.frozen 1; have r2 := rk.cell 2; have f2 := rk.frozen 2; have r3 := rk.cell 3; have f3 := rk.frozen 3; simp at r0 r1 r2 r3
      clear yk zk xk hno
      go_wp2_with fail
      rw [setCell_self r0, setCell_self r1, setCell_self r2, setCell_self r3]
      exact bodyPost_ret (v := .tuple #[.agg #[.int .i64 0, .slice none 0 0, .slice none 0 0, .bool false], .bool false]) (by simp [results, Try.results22, go_sem, r0, r1, r2, r3]) rfl ⟨.slice none 0 0, .slice none 0 0, by rw [HN.out]; rfl, by rw [HN.out]; exact World.ownsRow_nil _ _ _ _, by rw [HN.out]; exact World.ownsRow_nil _ _ _ _, bk⟩
end Cp
end Go.Proofs.Ytpldfdlnhgmnaaa

/-
  The document's Pick, whole.
-/
namespace Go.Proofs.Ytpldfdlnhgmnaaa
open Go.RowKit
set_option linter.unusedSimpArgs false
set_option linter.unusedVariables false
namespace Cp
open Op (bytesLess)
open Mf (Tbl Lv lvV LvIn Tbs TAt TblIn uA box_lev tcs tbs_of_own Post wp_post loopsOf inLoop)
open Md10 (setCell_self)
theorem uA_cap {a0 a1 a2 a3 : Option Addr} {n0 n1 n2 n3 c0 c1 c2 c3 : Nat} (h : n0 ≤ c0 ∧ n1 ≤ c1 ∧ n2 ≤ c2 ∧ n3 ≤ c3) (k : Nat) (a : Option Addr) (n c : Nat) (e : uA (.slice a0 n0 c0) (.slice a1 n1 c1) (.slice a2 n2 c2) (.slice a3 n3 c3) k = .slice a n c) : n ≤ c := by
  unfold uA at e
  obtain ⟨h0, h1, h2, h3⟩ := h
  split at e
  · injection e with _ e2 e3; omega
  · split at e
    · injection e with _ e2 e3; omega
    · split at e
      · injection e with _ e2 e3; omega
      · injection e with _ e2 e3; omega
theorem tbs_one {B : Nat} {W : World} {b off n cap c2 : Nat} {L : List Tbl} (hn : n = L.length) (hb : b < B) (hc : ∀ j (h : j < L.length), TAt W b (off + j * 6) L[j]) {q : Nat} (hq : q < L.length) : Tbs B W (.slice (some ⟨b, off + q * 6, none⟩) 1 c2) ((L.drop q).take 1) := by
  have hLd : ((L.drop q).take 1).length = 1 := by rw [List.length_take, List.length_drop]; omega
  refine ⟨_, c2, b, off + q * 6, by rw [hLd], fun _ => ⟨rfl, hb⟩, fun j hj => ?_⟩
  obtain rfl : j = 0 := by omega
  have h1 := hc q (by omega)
  have h2 : ((L.drop q).take 1)[0] = L[q]'(by omega) := by simp
  rw [h2, Nat.zero_mul, Nat.add_zero]
  exact h1

set_option maxRecDepth 1000000 in
set_option maxHeartbeats 40000000 in
theorem pickR_any (c : Cfg) (l : Lv) (a0 a1 a2 a3 : Option Addr) (n0 n1 n2 n3 c0 c1 c2 c3 : Nat) (A : Nat → List UInt8) (w : World) (hL : LvIn w.heap.size w l (.slice a0 n0 c0) (.slice a1 n1 c1) (.slice a2 n2 c2) (.slice a3 n3 c3)) (hS : ∀ r ∈ l.t, Siz r) (hcap : n0 ≤ c0 ∧ n1 ≤ c1 ∧ n2 ≤ c2 ∧ n3 ≤ c3) :
    Calls Try.prog 23 #[cfgV c, lvV l (.slice a0 n0 c0) (.slice a1 n1 c1) (.slice a2 n2 c2) (.slice a3 n3 c3), .agg #[.string (Cd.bs (A 0)), .string (Cd.bs (A 1)), .string (Cd.bs (A 2)), .string (Cd.bs (A 3))]] w fun e w' => ∃ x y, e = .returned (.tuple #[jobV (pickP c l.t A).1 x y, .bool (pickP c l.t A).2]) ∧ w'.ownsRow w.heap.size 38 6 x (pickP c l.t A).1.src.length (tcs (pickP c l.t A).1.src) ∧ w'.ownsRow w.heap.size 38 6 y (pickP c l.t A).1.dst.length (tcs (pickP c l.t A).1.dst) ∧ Below w.heap.size w w' := by
  have HL := Lib.hid (fun W (h : Below w.heap.size w W) => hL.grow h h.size)
  have HSC := Lib.hid (fun (k : Int) (W : World) (h : Below w.heap.size w W) => scoreR_any c l (.slice a0 n0 c0) (.slice a1 n1 c1) (.slice a2 n2 c2) (.slice a3 n3 c3) k W (hL.grow h h.size) hS)
  have hlens := hL.len
  have ht4 := hL.four
  have HPK := Lib.hid (show ∀ k, k < 3 → (∀ j, j < k → isDue c l.t j = false) → isDue c l.t k = true → pickP c l.t A = (jobP l.t k (A k), true) from fun k hk hn h => by unfold pickP; rw [due_at hk hn h, if_neg (by omega)])
  have HPN := Lib.hid (show (∀ j, j < 3 → isDue c l.t j = false) → pickP c l.t A = (⟨0, [], [], false⟩, false) from fun hn => by unfold pickP; rw [due_none hn, if_pos rfl])
  have HDP := Lib.hid (fun k (hk : k < 3) h => due_pos (c := c) (t := l.t) hk h)
  have HDU := Lib.hid (show ∀ k : Nat, isDue c l.t k = decide ((scoreP c l.t k).2 < (scoreP c l.t k).1) from fun k => rfl)
  obtain ⟨x0, x1, x2, x3, x4, x5, x6, x7⟩ := c
  unfold cfgV lvV at *
  simp only at HSC ⊢
  obtain ⟨wA, hA⟩ : ∃ wA, w.alloc (.cells #[.int .i64 x0, .int .i64 x1, .int .i64 x2, .int .i64 x3, .int .i64 x4, .int .i64 x5, .int .i64 x6, .int .u64 x7] 50) = wA := ⟨_, rfl⟩
  have bA : Below w.heap.size w wA := by rw [← hA]; exact (Below.refl _ _).alloc (Nat.le_refl _) _
  have xA : Ob.Obj wA w.heap.size 50 [.int .i64 x0, .int .i64 x1, .int .i64 x2, .int .i64 x3, .int .i64 x4, .int .i64 x5, .int .i64 x6, .int .u64 x7] := by rw [← hA]; exact Ob.Obj.new w _ [.int .i64 x0, .int .i64 x1, .int .i64 x2, .int .i64 x3, .int .i64 x4, .int .i64 x5, .int .i64 x6, .int .u64 x7]
  obtain ⟨bl, hbl⟩ : ∃ j, wA.heap.size = j := ⟨_, rfl⟩
  obtain ⟨wB, hB⟩ : ∃ wB, wA.alloc (.cells #[.int .u64 l.next, .int .u64 l.seq, .int .u64 l.log, .slice a0 n0 c0, .slice a1 n1 c1, .slice a2 n2 c2, .slice a3 n3 c3] 27) = wB := ⟨_, rfl⟩
  have bB : Below w.heap.size w wB := by rw [← hB]; exact bA.alloc bA.size _
  have yB : Ob.Obj wB bl 27 [.int .u64 l.next, .int .u64 l.seq, .int .u64 l.log, .slice a0 n0 c0, .slice a1 n1 c1, .slice a2 n2 c2, .slice a3 n3 c3] := by rw [← hB, ← hbl]; exact Ob.Obj.new wA _ [.int .u64 l.next, .int .u64 l.seq, .int .u64 l.log, .slice a0 n0 c0, .slice a1 n1 c1, .slice a2 n2 c2, .slice a3 n3 c3]
  have xB : Ob.Obj wB w.heap.size 50 [.int .i64 x0, .int .i64 x1, .int .i64 x2, .int .i64 x3, .int .i64 x4, .int .i64 x5, .int .i64 x6, .int .u64 x7] := by rw [← hB]; exact xA.alloc _
  obtain ⟨ba, hba⟩ : ∃ j, wB.heap.size = j := ⟨_, rfl⟩
  obtain ⟨wC, hC⟩ : ∃ wC, wB.alloc (.cells #[.string (Cd.bs (A 0)), .string (Cd.bs (A 1)), .string (Cd.bs (A 2)), .string (Cd.bs (A 3))] 51) = wC := ⟨_, rfl⟩
  have bC : Below w.heap.size w wC := by rw [← hC]; exact bB.alloc bB.size _
  have zC : Ob.Obj wC ba 51 [.string (Cd.bs (A 0)), .string (Cd.bs (A 1)), .string (Cd.bs (A 2)), .string (Cd.bs (A 3))] := by rw [← hC, ← hba]; exact Ob.Obj.new wB _ [.string (Cd.bs (A 0)), .string (Cd.bs (A 1)), .string (Cd.bs (A 2)), .string (Cd.bs (A 3))]
  have yC : Ob.Obj wC bl 27 [.int .u64 l.next, .int .u64 l.seq, .int .u64 l.log, .slice a0 n0 c0, .slice a1 n1 c1, .slice a2 n2 c2, .slice a3 n3 c3] := by rw [← hC]; exact yB.alloc _
  have xC : Ob.Obj wC w.heap.size 50 [.int .i64 x0, .int .i64 x1, .int .i64 x2, .int .i64 x3, .int .i64 x4, .int .i64 x5, .int .i64 x6, .int .u64 x7] := by rw [← hC]; exact xB.alloc _
  obtain ⟨br, hbr⟩ : ∃ j, wC.heap.size = j := ⟨_, rfl⟩
  obtain ⟨wD, hD⟩ : ∃ wD, wC.alloc (.cells #[.int .i64 0, .slice none 0 0, .slice none 0 0, .bool false] 56) = wD := ⟨_, rfl⟩
  have bD : Below w.heap.size w wD := by rw [← hD]; exact bC.alloc bC.size _
  have rD : Ob.Obj wD br 56 [.int .i64 0, .slice none 0 0, .slice none 0 0, .bool false] := by rw [← hD, ← hbr]; exact Ob.Obj.new wC _ [.int .i64 0, .slice none 0 0, .slice none 0 0, .bool false]
  have zD : Ob.Obj wD ba 51 [.string (Cd.bs (A 0)), .string (Cd.bs (A 1)), .string (Cd.bs (A 2)), .string (Cd.bs (A 3))] := by rw [← hD]; exact zC.alloc _
  have yD : Ob.Obj wD bl 27 [.int .u64 l.next, .int .u64 l.seq, .int .u64 l.log, .slice a0 n0 c0, .slice a1 n1 c1, .slice a2 n2 c2, .slice a3 n3 c3] := by rw [← hD]; exact yC.alloc _
  have xD : Ob.Obj wD w.heap.size 50 [.int .i64 x0, .int .i64 x1, .int .i64 x2, .int .i64 x3, .int .i64 x4, .int .i64 x5, .int .i64 x6, .int .u64 x7] := by rw [← hD]; exact xC.alloc _
  have hord : w.heap.size < bl ∧ bl < ba ∧ ba < br ∧ br < wD.heap.size := ⟨by have := xA.lt; omega, by have := yB.lt; omega, by have := zC.lt; omega, rD.lt⟩
  clear bA xA bB yB xB bC zC yC xC hL
  go_enter Try.func23, Try.ntmps23
  go_wp2_with fail
  clear hA hB hC hD hbl hba hbr
  go_loopw [8] (fun i wr => ∃ k : Nat, k ≤ 3 ∧ i = .int .i64 (k : Int) ∧ Hid (∀ j, j < k → isDue ⟨x0, x1, x2, x3, x4, x5, x6, x7⟩ l.t j = false) ∧ Below wD.heap.size wD wr) (fun i _ => 3 - (intOf i).toNat)
  case atStart => exact ⟨0, by omega, rfl, fun j hj => by omega, Below.refl _ _⟩
  case round =>
    obtain ⟨k, hk, rfl, hno, hB⟩ := hrel
    obtain ⟨wk, rfl⟩ : ∃ wk : World, wk = wr := ⟨_, rfl⟩
    have bk := bD.trans (hB.mono bD.size)
    have rk := rD.below hB
    have yk := yD.below hB
    have zk := zD.below hB
    have xk := xD.below hB
    by_cases hlt : k < 3
    · have hi0 : (k : Int) < 3 := by omega
      have k0 := xk.cell 0; have k1 := xk.cell 1; have k2 := xk.cell 2; have k3 := xk.cell 3; have k4 := xk.cell 4; have k5 := xk.cell 5; have k6 := xk.cell 6; have k7 := xk.cell 7; simp at k0 k1 k2 k3 k4 k5 k6 k7
      have l0 := yk.cell 0; have l1 := yk.cell 1; have l2 := yk.cell 2; have l3 := yk.cell 3; have l4 := yk.cell 4; have l5 := yk.cell 5; have l6 := yk.cell 6; simp at l0 l1 l2 l3 l4 l5 l6
      have hxz := xk.lt
      have hyz := yk.lt
      have HS4 := Lib.hid (HSC.out (k : Int) wk bk)
      have HDK := Lib.hid (HDU.out k)
      obtain ⟨s1, hs1⟩ : ∃ s, (scoreP ⟨x0, x1, x2, x3, x4, x5, x6, x7⟩ l.t (k : Int)).1 = s := ⟨_, rfl⟩
      obtain ⟨s2, hs2⟩ : ∃ s, (scoreP ⟨x0, x1, x2, x3, x4, x5, x6, x7⟩ l.t (k : Int)).2 = s := ⟨_, rfl⟩
      rw [hs1, hs2] at HS4 HDK
      clear hs1 hs2
      go_upto_region 5 with (go_at_call 21; (with_reducible refine HS4.out.mono ?_); rintro e w4 ⟨rfl, hb4⟩)
      clear k0 k1 k2 k3 k4 k5 k6 k7 l0 l1 l2 l3 l4 l5 l6
      have b4 := bk.trans (hb4.mono bk.size)
      have hB4 := hB.trans (hb4.mono hB.size)
      by_cases hdu : s2 < s1
      · have hdue : Hid (isDue ⟨x0, x1, x2, x3, x4, x5, x6, x7⟩ l.t k = true) := HDK.out.trans (decide_eq_true hdu)
        have hle : ¬ s1 ≤ s2 := by omega
        have hpos := HDP.out k hlt hdue.out
        have HPK2 := Lib.hid (HPK.out k hlt hno.out hdue.out)
        obtain ⟨bj, hbj⟩ : ∃ j, w4.heap.size = j := ⟨_, rfl⟩
        obtain ⟨wJ, hJ⟩ : ∃ wJ, w4.alloc (.cells #[.int .i64 (k : Int), .slice none 0 0, .slice none 0 0, .bool false] 56) = wJ := ⟨_, rfl⟩
        have y4 := yk.below hb4
        have r4 := rk.below hb4
        have z4 := zk.below hb4
        have hw4 : wk.heap.size ≤ w4.heap.size ∧ wD.heap.size ≤ wk.heap.size := ⟨hb4.size, hB.size⟩
        have HP0 := Lib.hid (show PkS w bl br bj l a0 a1 a2 a3 n0 n1 n2 n3 c0 c1 c2 c3 k (.slice none 0 0) (.slice none 0 0) [] [] false wJ from ⟨by rw [← hJ]; exact y4.alloc _, by rw [← hJ]; exact r4.alloc _, by rw [← hJ, ← hbj]; exact Ob.Obj.new w4 _ _, World.ownsRow_nil _ _ _ _, World.ownsRow_nil _ _ _ _, by rw [← hJ]; exact b4.alloc b4.size _, by omega⟩)
        have HZJ := Lib.hid (show Ob.Obj wJ ba 51 [.string (Cd.bs (A 0)), .string (Cd.bs (A 1)), .string (Cd.bs (A 2)), .string (Cd.bs (A 3))] by rw [← hJ]; exact z4.alloc _)
        have hbaz : ba < wJ.heap.size := HZJ.out.lt
        clear hno rk yk zk xk y4 r4 z4 hb4 hB HS4 HDK b4 hB4 bk
        have HJ := Lib.hid hJ
        have HBJ := Lib.hid hbj
        clear hJ hbj
        go_upto_region 7 with fail
        rw [HJ.out, HBJ.out]
        clear HJ HBJ
        by_cases hk0 : k = 0
        · subst hk0
          have HAL := Lib.hid (allR_any (.slice a0 n0 c0) (.slice none 0 0) (l.t.getD 0 []) [] wJ (HL.out _ HP0.out.bel).r0 ⟨none, 0, 0, 0, rfl, fun h => absurd h (by simp), fun j hj => absurd hj (by simp)⟩ (by have := Mf.getD_le hlens 0; omega) (by simp))
          have hsrc : l.t.getD 0 [] ++ [] = srcP l.t 0 (A 0) := by simp [srcP]
          rw [hsrc] at HAL
          obtain ⟨XL, hXL⟩ : ∃ XL, srcP l.t 0 (A 0) = XL := ⟨_, rfl⟩
          rw [hXL] at HAL
          have HXL := Lib.hid hXL
          have hlv := HP0.out.live
          have l3 := hlv.cell 3
          simp at l3
          clear hsrc hXL hlv
          go_upto_region 15 with (go_at_call 25; (with_reducible refine HAL.out.mono ?_); rintro e w8 ⟨r8, rfl, hO8, hb8⟩; have HP8 := Lib.hid (HP0.out.below hb8); have hj8 := HP8.out.job; have q1 := hj8.cell 1; have f1 := hj8.frozen 1; simp at q1; have HO8 := Lib.hid hO8; obtain ⟨a8, c8, rfl, _⟩ := Sq.row_cases hO8; clear hO8 hb8 hj8)
          have hP := HP8.out.setX (Mf.lowerR HO8.out (by have := HP0.out.job.lt; exact this))
          clear HP8 HO8 q1 f1 HAL
          have HP := Lib.hid hP
          have hsl0 : 0 < XL.length := by rw [← HXL.out]; exact srcP_pos _ hpos
          have hsl1 : XL.length ≤ 1048576 := by rw [← HXL.out]; exact srcP_len (by decide) hlens 0 _
          have HB15 := Lib.hid (boundsR_any _ XL _ (tbs_of_own HP.out.rx) (by omega) hsl0)
          obtain ⟨sp, hsp⟩ : ∃ sp, spanP XL = sp := ⟨_, rfl⟩
          have HSP := Lib.hid hsp
          rw [hsp] at HB15
          obtain ⟨lo, hi⟩ := sp
          have hj := HP.out.job
          have j1 := hj.cell 1
          simp at j1
          have hjz := hj.lt
          clear hj hP hsp
          go_upto_region 16 with (go_at_call 49; (with_reducible refine HB15.out.mono ?_); rintro e w15 ⟨rfl, hb15⟩)
          have HP15 := Lib.hid (HP.out.below hb15)
          have hk5 : 0 + 1 < 4 := by omega
          have HTB := Lib.hid ((HL.out _ HP15.out.bel).lev hk5)
          have ck := box_lev HP15.out.live hk5
          have hln1 := Mf.getD_le hlens (0 + 1)
          generalize uA (.slice a0 n0 c0) (.slice a1 n1 c1) (.slice a2 n2 c2) (.slice a3 n3 c3) (0 + 1) = u at *
          obtain ⟨au, cu, hu⟩ : ∃ a c, u = .slice a (l.t.getD (0 + 1) []).length c := by obtain ⟨a, c, _, _, h, _⟩ := HTB.out; exact ⟨a, c, h⟩
          obtain ⟨nu, hnu⟩ : ∃ n, (l.t.getD (0 + 1) []).length = n := ⟨_, rfl⟩
          rw [hnu] at hu
          subst hu
          have HOV := Lib.hid (overlappingR_any _ _ lo hi w15 HTB.out (by omega))
          obtain ⟨YL, hYL⟩ : ∃ YL, overP lo hi (l.t.getD (0 + 1) []) = YL := ⟨_, rfl⟩
          have hyl : YL.length ≤ 1048576 := by rw [← hYL]; exact Nat.le_trans (overP_len _ _ _) hln1
          rw [hYL] at HOV
          have HYL := Lib.hid hYL
          have hlz := HP15.out.live.lt
          clear hnu hYL HTB j1 hb15 HB15 HP
          go_upto_region 17 with (go_at_call 50; (with_reducible refine HOV.out.mono ?_); rintro e w16 ⟨r16, rfl, hO16, hb16⟩; have HP16 := Lib.hid (HP15.out.below hb16); have hj16 := HP16.out.job; have q2 := hj16.cell 2; have f2 := hj16.frozen 2; simp at q2; have HO16 := Lib.hid (Mf.lowerR hO16 (show bj + 1 ≤ w15.heap.size from by have := HP15.out.job.lt; omega)); obtain ⟨a16, c16, rfl, _⟩ := Sq.row_cases hO16; clear hO16 hb16 hj16)
          have HP17 := Lib.hid (HP16.out.setY HO16.out)
          obtain ⟨w17, hw17⟩ : ∃ w17, w16.setCell ⟨bj, 2, none⟩ (.slice a16 YL.length c16) = w17 := ⟨_, rfl⟩
          rw [hw17] at HP17 ⊢
          clear HP16 HO16 HP15 q2 f2 hw17 ck HOV
          have hj := HP17.out.job
          have j1 := hj.cell 1
          have j2 := hj.cell 2
          simp at j1 j2
          have HAL2 := Lib.hid (allR_any _ _ XL YL w17 (tbs_of_own HP17.out.rx) (tbs_of_own HP17.out.ry) (by omega) (by omega))
          obtain ⟨ZL, hZL⟩ : ∃ ZL, XL ++ YL = ZL := ⟨_, rfl⟩
          have hzl : 0 < ZL.length ∧ ZL.length ≤ 2097152 := by rw [← hZL, List.length_append]; omega
          rw [hZL] at HAL2
          have HZL := Lib.hid hZL
          obtain ⟨sp2, hsp2⟩ : ∃ sp, spanP ZL = sp := ⟨_, rfl⟩
          have HSP2 := Lib.hid hsp2
          obtain ⟨lo2, hi2⟩ := sp2
          have HB17 := Lib.hid (fun (v : Value) (W : World) (hV : Tbs W.heap.size W v ZL) => show Calls Try.prog 49 #[v] W fun e w' => e = .returned (.tuple #[.string (Cd.bs lo2), .string (Cd.bs hi2)]) ∧ Below W.heap.size W w' from by have h := boundsR_any v ZL W hV (by omega) hzl.1; rw [hsp2] at h; exact h)
          clear hj hZL hsp2
          go_upto_region 18 with (first
            | (go_at_call 25; (with_reducible refine HAL2.out.mono ?_); rintro e w18 ⟨r18, rfl, hO18, hb18⟩; have HT18 := Lib.hid (tbs_of_own hO18); have HP18 := Lib.hid (HP17.out.below hb18); obtain ⟨a18, c18, rfl, _⟩ := Sq.row_cases hO18; clear hO18 hb18)
            | (go_at_call 49; (with_reducible refine (HB17.out _ _ HT18.out).mono ?_); rintro e w19 ⟨rfl, hb19⟩; have HP19 := Lib.hid (HP18.out.below hb19)))
          have hj := HP19.out.job
          have j3 := hj.cell 3
          have f3 := hj.frozen 3
          simp at j3
          clear hj j1 j2 HP17 HP18 HAL2 HB17 HT18
          go_upto_region 19 with fail
          have HP20 := Lib.hid (HP19.out.setZ true)
          obtain ⟨w20, hw20⟩ : ∃ w20, w19.setCell ⟨bj, 3, none⟩ (.bool true) = w20 := ⟨_, rfl⟩
          rw [hw20] at HP20 ⊢
          clear hw20 HP19 j3 f3
          go_wp2_with fail
          refine wp_post (pk_deep _ _ l 0 _ bl br bj a0 a1 a2 a3 n0 n1 n2 n3 c0 c1 c2 c3 _ _ XL YL lo2 hi2 w w20 (by omega) (by simp) HL HP20 ?_)
          intro x15 x16 x107 x108 x109 x110 x111 x112 x113 x114 x115 x116 x117 x118 x119 x120 x121 x122 x123 x124 x125 W9 hP9
          have hj := hP9.job
          have hr := hP9.res
          have q0 := hj.cell 0
          have q1 := hj.cell 1
          have q2 := hj.cell 2
          have q3 := hj.cell 3
          simp at q0 q1 q2 q3
          have r0 := hr.cell 0; have f0 := hr.frozen 0; have r1 := hr.cell 1; have f1 := hr.frozen 1; have r2 := hr.cell 2; have f2 := hr.frozen 2; have r3 := hr.cell 3; have f3 := hr.frozen 3; simp at r0 r1 r2 r3
          have hrz := hr.lt
          have hj9z := hj.lt
          have HB9 := Lib.hid (show botP l.t 0 (A 0) = (overP lo2 hi2 (l.t.drop (0 + 2)).flatten).isEmpty by unfold botP dstP; rw [HXL.out, HSP.out]; simp only; rw [HYL.out, HZL.out, HSP2.out])
          have HD9 := Lib.hid (show dstP l.t 0 (A 0) = YL by unfold dstP; rw [HXL.out, HSP.out]; exact HYL.out)
          obtain ⟨bb, hbb⟩ : ∃ bb, (overP lo2 hi2 (l.t.drop (0 + 2)).flatten).isEmpty = bb := ⟨_, rfl⟩
          rw [hbb] at HB9 q3 hP9
          have HP9 := Lib.hid hP9
          clear hbb hj hr hP9 HP20
          simp only [Exit.inBlock, Exit.then, if_true]
          go_wp2_with fail
          have ho := HP9.out.ord
          have hz := (((HP9.out.res.set 0 (.int .i64 (0 : Int))).set 1 (.slice a8 XL.length c8)).set 2 (.slice a16 YL.length c16)).set 3 (.bool bb)
          have hx := row1 (b := br) (o := 3) (row1 (b := br) (o := 2) (row1 (b := br) (o := 1) (row1 (b := br) (o := 0) HP9.out.rx (by omega) (.int .i64 (0 : Int))) (by omega) (.slice a8 XL.length c8)) (by omega) (.slice a16 YL.length c16)) (by omega) (.bool bb)
          have hy := row1 (b := br) (o := 3) (row1 (b := br) (o := 2) (row1 (b := br) (o := 1) (row1 (b := br) (o := 0) HP9.out.ry (by omega) (.int .i64 (0 : Int))) (by omega) (.slice a8 XL.length c8)) (by omega) (.slice a16 YL.length c16)) (by omega) (.bool bb)
          have hbz := (((HP9.out.bel.setCell (p := ⟨br, 0, none⟩) ho.2.2.2 (.int .i64 (0 : Int))).setCell (p := ⟨br, 1, none⟩) ho.2.2.2 (.slice a8 XL.length c8)).setCell (p := ⟨br, 2, none⟩) ho.2.2.2 (.slice a16 YL.length c16)).setCell (p := ⟨br, 3, none⟩) ho.2.2.2 (.bool bb)
          have s0 := hz.cell 0
          have s1' := hz.cell 1
          have s2' := hz.cell 2
          have s3 := hz.cell 3
          simp at s0 s1' s2' s3
          generalize ((((W9.setCell ⟨br, 0, none⟩ (.int .i64 (0 : Int))).setCell ⟨br, 1, none⟩ (.slice a8 XL.length c8)).setCell ⟨br, 2, none⟩ (.slice a16 YL.length c16)).setCell ⟨br, 3, none⟩ (.bool bb)) = wZ at *
          exact bodyPost_ret (v := .tuple #[.agg #[.int .i64 (0 : Int), .slice a8 XL.length c8, .slice a16 YL.length c16, .bool bb], .bool true]) (by simp [results, Try.results23, go_sem, s0, s1', s2', s3]) rfl ⟨_, _, by rw [HPK2.out]; unfold jobP jobV; simp only [HB9.out]; rfl, by rw [HPK2.out]; show wZ.ownsRow _ _ _ _ (srcP l.t 0 (A 0)).length (tcs (srcP l.t 0 (A 0))); rw [HXL.out]; exact Mf.lowerR hx (by omega), by rw [HPK2.out]; show wZ.ownsRow _ _ _ _ (dstP l.t 0 (A 0)).length (tcs (dstP l.t 0 (A 0))); rw [HD9.out]; exact Mf.lowerR hy (by omega), hbz⟩
        · have hk0b : ((k : Int) == 0) = false := by simp; omega
          have hcl := HL.out _ HP0.out.bel
          have HAK := Lib.hid (show wJ.cell? ⟨ba, k, none⟩ = some (.string (Cd.bs (A k))) by
            have h3 : k = 0 ∨ k = 1 ∨ k = 2 := by omega
            have h4 := HZJ.out.cell k
            rcases h3 with rfl | rfl | rfl <;> exact h4)
          have HLJ := Lib.hid hcl
          have HLV := Lib.hid HP0.out.live
          have hk4 : k < 4 := by omega
          clear hcl
          go_wp2_with fail
          refine wp_post (pk_find _ _ l k bl ba a0 a1 a2 a3 n0 n1 n2 n3 c0 c1 c2 c3 (A k) wJ hk4 HLJ HLV hbaz HAK ?_)
          intro x40 x41 x42 x43 x44 x45 x46 x47 x48 x49 x50 x51 x52 x53 x54 x55 x56 x57 x58 x59 x60 x61 x62 q W7 hb7 hq htw
          simp only [Exit.inBlock, Exit.then, if_true]
          have HP7 := Lib.hid (HP0.out.below hb7)
          obtain ⟨aK, cK, bK, offK, hvK, haK, hcK⟩ := (HL.out _ HP7.out.bel).lev hk4
          have hcapK := uA_cap hcap k _ _ _ hvK
          obtain ⟨rfl, hbK⟩ := haK hpos
          have ck := box_lev HP7.out.live hk4
          rw [hvK] at ck
          have HCK := Lib.hid hcK
          have hlK := Mf.getD_le hlens k
          obtain ⟨nK, hnK⟩ : ∃ n, (l.t.getD k []).length = n := ⟨_, rfl⟩
          have hnK1 : nK ≤ (l.t.getD k []).length := by omega
          have hnK2 : (l.t.getD k []).length ≤ nK := by omega
          have hidx : idxP (l.t.getD k []) (A k) = if q = nK then 0 else q := by unfold idxP; rw [htw, hnK]
          rw [hnK] at ck hcapK hpos hq
          have HIX := Lib.hid hidx
          have hkk : (0 : Int) ≤ (k : Int) ∧ (k : Int) < 4 := by omega
          have hlz7 := HP7.out.live.lt
          clear hvK haK hcK hnK hidx htw HAK HLJ HLV HZJ hbaz hb7 HP0
          by_cases hqe : q = nK
          · have hqd : ((q : Int) == (nK : Int)) = true := by rw [hqe]; simp
            have hix : Hid (idxP (l.t.getD k []) (A k) = 0) := HIX.out.trans (if_pos hqe)
            obtain ⟨i0, hi0⟩ : ∃ i0 : Nat, i0 = 0 := ⟨_, rfl⟩
            have HI0 := Lib.hid hi0
            clear hi0
            have hq0 : 0 < nK := by omega
            have hTK := tbs_one (c2 := cK - 0) (n := (l.t.getD k []).length) (cap := cK) rfl hbK HCK.out (q := 0) (by omega)
            rw [Nat.zero_mul, Nat.add_zero, Nat.sub_zero] at hTK
            have HAL := Lib.hid (allR_any _ (.slice none 0 0) (((l.t.getD k []).drop 0).take 1) [] W7 hTK ⟨none, 0, 0, 0, rfl, fun h => absurd h (by simp), fun j hj => absurd hj (by simp)⟩ (by rw [List.length_take, List.length_drop]; omega) (by simp))
            have hsrc : ((l.t.getD k []).drop 0).take 1 ++ [] = srcP l.t k (A k) := by unfold srcP; rw [if_neg hk0, hix.out, List.append_nil]
            rw [hsrc] at HAL
            obtain ⟨XL, hXL⟩ : ∃ XL, srcP l.t k (A k) = XL := ⟨_, rfl⟩
            rw [hXL] at HAL
            have HXL := Lib.hid hXL
            have hi1 : (0 : Int) ≤ (0 : Int) ∧ (0 : Int) ≤ (0 : Int) + 1 ∧ (0 : Int) + 1 ≤ (cK : Int) := by omega
            have e1 : ((0 : Int) + 1).toNat - 0 = 1 := by omega
            have hw1 : IntKind.i64.wrap ((0 : Int) + 1) = (0 : Int) + 1 := by rw [IntKind.wrap_i64]; omega
            have hpos : 0 < (l.t.getD k []).length := by omega
            clear hsrc hXL hnK1 hnK2 hTK
            go_upto_region 15 with (go_at_call 25; (with_reducible refine HAL.out.mono ?_); rintro e w8 ⟨r8, rfl, hO8, hb8⟩; have HP8 := Lib.hid (HP7.out.below hb8); have hj8 := HP8.out.job; have q1 := hj8.cell 1; have f1 := hj8.frozen 1; simp at q1; have HO8 := Lib.hid hO8; obtain ⟨a8, c8, rfl, _⟩ := Sq.row_cases hO8; clear hO8 hb8 hj8)
            have hP := HP8.out.setX (Mf.lowerR HO8.out (by have := HP7.out.job.lt; exact this))
            clear HP8 HO8 q1 f1 HAL ck HP7 hbK HCK
            have HP := Lib.hid hP
            have hsl0 : 0 < XL.length := by rw [← HXL.out]; exact srcP_pos _ hpos
            have hsl1 : XL.length ≤ 1048576 := by rw [← HXL.out]; exact srcP_len (by decide) hlens k _
            have HB15 := Lib.hid (boundsR_any _ XL _ (tbs_of_own HP.out.rx) (by omega) hsl0)
            obtain ⟨sp, hsp⟩ : ∃ sp, spanP XL = sp := ⟨_, rfl⟩
            have HSP := Lib.hid hsp
            rw [hsp] at HB15
            obtain ⟨lo, hi⟩ := sp
            have hj := HP.out.job
            have j1 := hj.cell 1
            simp at j1
            have hjz := hj.lt
            clear hj hP hsp
            go_upto_region 16 with (go_at_call 49; (with_reducible refine HB15.out.mono ?_); rintro e w15 ⟨rfl, hb15⟩)
            have HP15 := Lib.hid (HP.out.below hb15)
            have hk5 : k + 1 < 4 := by omega
            have HTB := Lib.hid ((HL.out _ HP15.out.bel).lev hk5)
            have ck := box_lev HP15.out.live hk5
            have hln1 := Mf.getD_le hlens (k + 1)
            generalize uA (.slice a0 n0 c0) (.slice a1 n1 c1) (.slice a2 n2 c2) (.slice a3 n3 c3) (k + 1) = u at *
            obtain ⟨au, cu, hu⟩ : ∃ a c, u = .slice a (l.t.getD (k + 1) []).length c := by obtain ⟨a, c, _, _, h, _⟩ := HTB.out; exact ⟨a, c, h⟩
            obtain ⟨nu, hnu⟩ : ∃ n, (l.t.getD (k + 1) []).length = n := ⟨_, rfl⟩
            rw [hnu] at hu
            subst hu
            have HOV := Lib.hid (overlappingR_any _ _ lo hi w15 HTB.out (by omega))
            obtain ⟨YL, hYL⟩ : ∃ YL, overP lo hi (l.t.getD (k + 1) []) = YL := ⟨_, rfl⟩
            have hyl : YL.length ≤ 1048576 := by rw [← hYL]; exact Nat.le_trans (overP_len _ _ _) hln1
            rw [hYL] at HOV
            have HYL := Lib.hid hYL
            have hlz := HP15.out.live.lt
            clear hnu hYL HTB j1 hb15 HB15 HP
            go_upto_region 17 with (go_at_call 50; (with_reducible refine HOV.out.mono ?_); rintro e w16 ⟨r16, rfl, hO16, hb16⟩; have HP16 := Lib.hid (HP15.out.below hb16); have hj16 := HP16.out.job; have q2 := hj16.cell 2; have f2 := hj16.frozen 2; simp at q2; have HO16 := Lib.hid (Mf.lowerR hO16 (show bj + 1 ≤ w15.heap.size from by have := HP15.out.job.lt; omega)); obtain ⟨a16, c16, rfl, _⟩ := Sq.row_cases hO16; clear hO16 hb16 hj16)
            have HP17 := Lib.hid (HP16.out.setY HO16.out)
            obtain ⟨w17, hw17⟩ : ∃ w17, w16.setCell ⟨bj, 2, none⟩ (.slice a16 YL.length c16) = w17 := ⟨_, rfl⟩
            rw [hw17] at HP17 ⊢
            clear HP16 HO16 HP15 q2 f2 hw17 ck HOV
            have hj := HP17.out.job
            have j1 := hj.cell 1
            have j2 := hj.cell 2
            simp at j1 j2
            have HAL2 := Lib.hid (allR_any _ _ XL YL w17 (tbs_of_own HP17.out.rx) (tbs_of_own HP17.out.ry) (by omega) (by omega))
            obtain ⟨ZL, hZL⟩ : ∃ ZL, XL ++ YL = ZL := ⟨_, rfl⟩
            have hzl : 0 < ZL.length ∧ ZL.length ≤ 2097152 := by rw [← hZL, List.length_append]; omega
            rw [hZL] at HAL2
            have HZL := Lib.hid hZL
            obtain ⟨sp2, hsp2⟩ : ∃ sp, spanP ZL = sp := ⟨_, rfl⟩
            have HSP2 := Lib.hid hsp2
            obtain ⟨lo2, hi2⟩ := sp2
            have HB17 := Lib.hid (fun (v : Value) (W : World) (hV : Tbs W.heap.size W v ZL) => show Calls Try.prog 49 #[v] W fun e w' => e = .returned (.tuple #[.string (Cd.bs lo2), .string (Cd.bs hi2)]) ∧ Below W.heap.size W w' from by have h := boundsR_any v ZL W hV (by omega) hzl.1; rw [hsp2] at h; exact h)
            clear hj hZL hsp2
            go_upto_region 18 with (first
              | (go_at_call 25; (with_reducible refine HAL2.out.mono ?_); rintro e w18 ⟨r18, rfl, hO18, hb18⟩; have HT18 := Lib.hid (tbs_of_own hO18); have HP18 := Lib.hid (HP17.out.below hb18); obtain ⟨a18, c18, rfl, _⟩ := Sq.row_cases hO18; clear hO18 hb18)
              | (go_at_call 49; (with_reducible refine (HB17.out _ _ HT18.out).mono ?_); rintro e w19 ⟨rfl, hb19⟩; have HP19 := Lib.hid (HP18.out.below hb19)))
            have hj := HP19.out.job
            have j3 := hj.cell 3
            have f3 := hj.frozen 3
            simp at j3
            clear hj j1 j2 HP17 HP18 HAL2 HB17 HT18
            go_upto_region 19 with fail
            have HP20 := Lib.hid (HP19.out.setZ true)
            obtain ⟨w20, hw20⟩ : ∃ w20, w19.setCell ⟨bj, 3, none⟩ (.bool true) = w20 := ⟨_, rfl⟩
            rw [hw20] at HP20 ⊢
            clear hw20 HP19 j3 f3
            go_wp2_with fail
            refine wp_post (pk_deep _ _ l k _ bl br bj a0 a1 a2 a3 n0 n1 n2 n3 c0 c1 c2 c3 _ _ XL YL lo2 hi2 w w20 (by omega) (by simp) HL HP20 ?_)
            intro x15 x16 x107 x108 x109 x110 x111 x112 x113 x114 x115 x116 x117 x118 x119 x120 x121 x122 x123 x124 x125 W9 hP9
            have hj := hP9.job
            have hr := hP9.res
            have q0 := hj.cell 0
            have q1 := hj.cell 1
            have q2 := hj.cell 2
            have q3 := hj.cell 3
            simp at q0 q1 q2 q3
            have r0 := hr.cell 0; have f0 := hr.frozen 0; have r1 := hr.cell 1; have f1 := hr.frozen 1; have r2 := hr.cell 2; have f2 := hr.frozen 2; have r3 := hr.cell 3; have f3 := hr.frozen 3; simp at r0 r1 r2 r3
            have hrz := hr.lt
            have hj9z := hj.lt
            have HB9 := Lib.hid (show botP l.t k (A k) = (overP lo2 hi2 (l.t.drop (k + 2)).flatten).isEmpty by unfold botP dstP; rw [HXL.out, HSP.out]; simp only; rw [HYL.out, HZL.out, HSP2.out])
            have HD9 := Lib.hid (show dstP l.t k (A k) = YL by unfold dstP; rw [HXL.out, HSP.out]; exact HYL.out)
            obtain ⟨bb, hbb⟩ : ∃ bb, (overP lo2 hi2 (l.t.drop (k + 2)).flatten).isEmpty = bb := ⟨_, rfl⟩
            rw [hbb] at HB9 q3 hP9
            have HP9 := Lib.hid hP9
            clear hbb hj hr hP9 HP20
            simp only [Exit.inBlock, Exit.then, if_true]
            go_wp2_with fail
            have ho := HP9.out.ord
            have hz := (((HP9.out.res.set 0 (.int .i64 (k : Int))).set 1 (.slice a8 XL.length c8)).set 2 (.slice a16 YL.length c16)).set 3 (.bool bb)
            have hx := row1 (b := br) (o := 3) (row1 (b := br) (o := 2) (row1 (b := br) (o := 1) (row1 (b := br) (o := 0) HP9.out.rx (by omega) (.int .i64 (k : Int))) (by omega) (.slice a8 XL.length c8)) (by omega) (.slice a16 YL.length c16)) (by omega) (.bool bb)
            have hy := row1 (b := br) (o := 3) (row1 (b := br) (o := 2) (row1 (b := br) (o := 1) (row1 (b := br) (o := 0) HP9.out.ry (by omega) (.int .i64 (k : Int))) (by omega) (.slice a8 XL.length c8)) (by omega) (.slice a16 YL.length c16)) (by omega) (.bool bb)
            have hbz := (((HP9.out.bel.setCell (p := ⟨br, 0, none⟩) ho.2.2.2 (.int .i64 (k : Int))).setCell (p := ⟨br, 1, none⟩) ho.2.2.2 (.slice a8 XL.length c8)).setCell (p := ⟨br, 2, none⟩) ho.2.2.2 (.slice a16 YL.length c16)).setCell (p := ⟨br, 3, none⟩) ho.2.2.2 (.bool bb)
            have s0 := hz.cell 0
            have s1' := hz.cell 1
            have s2' := hz.cell 2
            have s3 := hz.cell 3
            simp at s0 s1' s2' s3
            generalize ((((W9.setCell ⟨br, 0, none⟩ (.int .i64 (k : Int))).setCell ⟨br, 1, none⟩ (.slice a8 XL.length c8)).setCell ⟨br, 2, none⟩ (.slice a16 YL.length c16)).setCell ⟨br, 3, none⟩ (.bool bb)) = wZ at *
            exact bodyPost_ret (v := .tuple #[.agg #[.int .i64 (k : Int), .slice a8 XL.length c8, .slice a16 YL.length c16, .bool bb], .bool true]) (by simp [results, Try.results23, go_sem, s0, s1', s2', s3]) rfl ⟨_, _, by rw [HPK2.out]; unfold jobP jobV; simp only [HB9.out]; rfl, by rw [HPK2.out]; show wZ.ownsRow _ _ _ _ (srcP l.t k (A k)).length (tcs (srcP l.t k (A k))); rw [HXL.out]; exact Mf.lowerR hx (by omega), by rw [HPK2.out]; show wZ.ownsRow _ _ _ _ (dstP l.t k (A k)).length (tcs (dstP l.t k (A k))); rw [HD9.out]; exact Mf.lowerR hy (by omega), hbz⟩
          · have hqd : ((q : Int) == (nK : Int)) = false := by simp; omega
            have hix : Hid (idxP (l.t.getD k []) (A k) = q) := HIX.out.trans (if_neg hqe)
            have hq0 : q < nK := by omega
            have hTK := tbs_one (c2 := cK - q) (n := (l.t.getD k []).length) (cap := cK) rfl hbK HCK.out (q := q) (by omega)
            have hTK0 := hTK
            have HAL := Lib.hid (allR_any _ (.slice none 0 0) (((l.t.getD k []).drop q).take 1) [] W7 hTK ⟨none, 0, 0, 0, rfl, fun h => absurd h (by simp), fun j hj => absurd hj (by simp)⟩ (by rw [List.length_take, List.length_drop]; omega) (by simp))
            have hsrc : ((l.t.getD k []).drop q).take 1 ++ [] = srcP l.t k (A k) := by unfold srcP; rw [if_neg hk0, hix.out, List.append_nil]
            rw [hsrc] at HAL
            obtain ⟨XL, hXL⟩ : ∃ XL, srcP l.t k (A k) = XL := ⟨_, rfl⟩
            rw [hXL] at HAL
            have HXL := Lib.hid hXL
            have hi1 : (0 : Int) ≤ (q : Int) ∧ (q : Int) ≤ (q : Int) + 1 ∧ (q : Int) + 1 ≤ (cK : Int) := by omega
            have e1 : ((q : Int) + 1).toNat - q = 1 := by omega
            have hw1 : IntKind.i64.wrap ((q : Int) + 1) = (q : Int) + 1 := by rw [IntKind.wrap_i64]; omega
            have hpos : 0 < (l.t.getD k []).length := by omega
            clear hsrc hXL hnK1 hnK2 hTK
            go_upto_region 15 with (go_at_call 25; (with_reducible refine HAL.out.mono ?_); rintro e w8 ⟨r8, rfl, hO8, hb8⟩; have HP8 := Lib.hid (HP7.out.below hb8); have hj8 := HP8.out.job; have q1 := hj8.cell 1; have f1 := hj8.frozen 1; simp at q1; have HO8 := Lib.hid hO8; obtain ⟨a8, c8, rfl, _⟩ := Sq.row_cases hO8; clear hO8 hb8 hj8)
            have hP := HP8.out.setX (Mf.lowerR HO8.out (by have := HP7.out.job.lt; exact this))
            clear HP8 HO8 q1 f1 HAL ck HP7 hbK HCK
            have HP := Lib.hid hP
            have hsl0 : 0 < XL.length := by rw [← HXL.out]; exact srcP_pos _ hpos
            have hsl1 : XL.length ≤ 1048576 := by rw [← HXL.out]; exact srcP_len (by decide) hlens k _
            have HB15 := Lib.hid (boundsR_any _ XL _ (tbs_of_own HP.out.rx) (by omega) hsl0)
            obtain ⟨sp, hsp⟩ : ∃ sp, spanP XL = sp := ⟨_, rfl⟩
            have HSP := Lib.hid hsp
            rw [hsp] at HB15
            obtain ⟨lo, hi⟩ := sp
            have hj := HP.out.job
            have j1 := hj.cell 1
            simp at j1
            have hjz := hj.lt
            clear hj hP hsp
            go_upto_region 16 with (go_at_call 49; (with_reducible refine HB15.out.mono ?_); rintro e w15 ⟨rfl, hb15⟩)
            have HP15 := Lib.hid (HP.out.below hb15)
            have hk5 : k + 1 < 4 := by omega
            have HTB := Lib.hid ((HL.out _ HP15.out.bel).lev hk5)
            have ck := box_lev HP15.out.live hk5
            have hln1 := Mf.getD_le hlens (k + 1)
            generalize uA (.slice a0 n0 c0) (.slice a1 n1 c1) (.slice a2 n2 c2) (.slice a3 n3 c3) (k + 1) = u at *
            obtain ⟨au, cu, hu⟩ : ∃ a c, u = .slice a (l.t.getD (k + 1) []).length c := by obtain ⟨a, c, _, _, h, _⟩ := HTB.out; exact ⟨a, c, h⟩
            obtain ⟨nu, hnu⟩ : ∃ n, (l.t.getD (k + 1) []).length = n := ⟨_, rfl⟩
            rw [hnu] at hu
            subst hu
            have HOV := Lib.hid (overlappingR_any _ _ lo hi w15 HTB.out (by omega))
            obtain ⟨YL, hYL⟩ : ∃ YL, overP lo hi (l.t.getD (k + 1) []) = YL := ⟨_, rfl⟩
            have hyl : YL.length ≤ 1048576 := by rw [← hYL]; exact Nat.le_trans (overP_len _ _ _) hln1
            rw [hYL] at HOV
            have HYL := Lib.hid hYL
            have hlz := HP15.out.live.lt
            clear hnu hYL HTB j1 hb15 HB15 HP
            go_upto_region 17 with (go_at_call 50; (with_reducible refine HOV.out.mono ?_); rintro e w16 ⟨r16, rfl, hO16, hb16⟩; have HP16 := Lib.hid (HP15.out.below hb16); have hj16 := HP16.out.job; have q2 := hj16.cell 2; have f2 := hj16.frozen 2; simp at q2; have HO16 := Lib.hid (Mf.lowerR hO16 (show bj + 1 ≤ w15.heap.size from by have := HP15.out.job.lt; omega)); obtain ⟨a16, c16, rfl, _⟩ := Sq.row_cases hO16; clear hO16 hb16 hj16)
            have HP17 := Lib.hid (HP16.out.setY HO16.out)
            obtain ⟨w17, hw17⟩ : ∃ w17, w16.setCell ⟨bj, 2, none⟩ (.slice a16 YL.length c16) = w17 := ⟨_, rfl⟩
            rw [hw17] at HP17 ⊢
            clear HP16 HO16 HP15 q2 f2 hw17 ck HOV
            have hj := HP17.out.job
            have j1 := hj.cell 1
            have j2 := hj.cell 2
            simp at j1 j2
            have HAL2 := Lib.hid (allR_any _ _ XL YL w17 (tbs_of_own HP17.out.rx) (tbs_of_own HP17.out.ry) (by omega) (by omega))
            obtain ⟨ZL, hZL⟩ : ∃ ZL, XL ++ YL = ZL := ⟨_, rfl⟩
            have hzl : 0 < ZL.length ∧ ZL.length ≤ 2097152 := by rw [← hZL, List.length_append]; omega
            rw [hZL] at HAL2
            have HZL := Lib.hid hZL
            obtain ⟨sp2, hsp2⟩ : ∃ sp, spanP ZL = sp := ⟨_, rfl⟩
            have HSP2 := Lib.hid hsp2
            obtain ⟨lo2, hi2⟩ := sp2
            have HB17 := Lib.hid (fun (v : Value) (W : World) (hV : Tbs W.heap.size W v ZL) => show Calls Try.prog 49 #[v] W fun e w' => e = .returned (.tuple #[.string (Cd.bs lo2), .string (Cd.bs hi2)]) ∧ Below W.heap.size W w' from by have h := boundsR_any v ZL W hV (by omega) hzl.1; rw [hsp2] at h; exact h)
            clear hj hZL hsp2
            go_upto_region 18 with (first
              | (go_at_call 25; (with_reducible refine HAL2.out.mono ?_); rintro e w18 ⟨r18, rfl, hO18, hb18⟩; have HT18 := Lib.hid (tbs_of_own hO18); have HP18 := Lib.hid (HP17.out.below hb18); obtain ⟨a18, c18, rfl, _⟩ := Sq.row_cases hO18; clear hO18 hb18)
              | (go_at_call 49; (with_reducible refine (HB17.out _ _ HT18.out).mono ?_); rintro e w19 ⟨rfl, hb19⟩; have HP19 := Lib.hid (HP18.out.below hb19)))
            have hj := HP19.out.job
            have j3 := hj.cell 3
            have f3 := hj.frozen 3
            simp at j3
            clear hj j1 j2 HP17 HP18 HAL2 HB17 HT18
            go_upto_region 19 with fail
            have HP20 := Lib.hid (HP19.out.setZ true)
            obtain ⟨w20, hw20⟩ : ∃ w20, w19.setCell ⟨bj, 3, none⟩ (.bool true) = w20 := ⟨_, rfl⟩
            rw [hw20] at HP20 ⊢
            clear hw20 HP19 j3 f3
            go_wp2_with fail
            refine wp_post (pk_deep _ _ l k _ bl br bj a0 a1 a2 a3 n0 n1 n2 n3 c0 c1 c2 c3 _ _ XL YL lo2 hi2 w w20 (by omega) (by simp) HL HP20 ?_)
            intro x15 x16 x107 x108 x109 x110 x111 x112 x113 x114 x115 x116 x117 x118 x119 x120 x121 x122 x123 x124 x125 W9 hP9
            have hj := hP9.job
            have hr := hP9.res
            have q0 := hj.cell 0
            have q1 := hj.cell 1
            have q2 := hj.cell 2
            have q3 := hj.cell 3
            simp at q0 q1 q2 q3
            have r0 := hr.cell 0; have f0 := hr.frozen 0; have r1 := hr.cell 1; have f1 := hr.frozen 1; have r2 := hr.cell 2; have f2 := hr.frozen 2; have r3 := hr.cell 3; have f3 := hr.frozen 3; simp at r0 r1 r2 r3
            have hrz := hr.lt
            have hj9z := hj.lt
            have HB9 := Lib.hid (show botP l.t k (A k) = (overP lo2 hi2 (l.t.drop (k + 2)).flatten).isEmpty by unfold botP dstP; rw [HXL.out, HSP.out]; simp only; rw [HYL.out, HZL.out, HSP2.out])
            have HD9 := Lib.hid (show dstP l.t k (A k) = YL by unfold dstP; rw [HXL.out, HSP.out]; exact HYL.out)
            obtain ⟨bb, hbb⟩ : ∃ bb, (overP lo2 hi2 (l.t.drop (k + 2)).flatten).isEmpty = bb := ⟨_, rfl⟩
            rw [hbb] at HB9 q3 hP9
            have HP9 := Lib.hid hP9
            clear hbb hj hr hP9 HP20
            simp only [Exit.inBlock, Exit.then, if_true]
            go_wp2_with fail
            have ho := HP9.out.ord
            have hz := (((HP9.out.res.set 0 (.int .i64 (k : Int))).set 1 (.slice a8 XL.length c8)).set 2 (.slice a16 YL.length c16)).set 3 (.bool bb)
            have hx := row1 (b := br) (o := 3) (row1 (b := br) (o := 2) (row1 (b := br) (o := 1) (row1 (b := br) (o := 0) HP9.out.rx (by omega) (.int .i64 (k : Int))) (by omega) (.slice a8 XL.length c8)) (by omega) (.slice a16 YL.length c16)) (by omega) (.bool bb)
            have hy := row1 (b := br) (o := 3) (row1 (b := br) (o := 2) (row1 (b := br) (o := 1) (row1 (b := br) (o := 0) HP9.out.ry (by omega) (.int .i64 (k : Int))) (by omega) (.slice a8 XL.length c8)) (by omega) (.slice a16 YL.length c16)) (by omega) (.bool bb)
            have hbz := (((HP9.out.bel.setCell (p := ⟨br, 0, none⟩) ho.2.2.2 (.int .i64 (k : Int))).setCell (p := ⟨br, 1, none⟩) ho.2.2.2 (.slice a8 XL.length c8)).setCell (p := ⟨br, 2, none⟩) ho.2.2.2 (.slice a16 YL.length c16)).setCell (p := ⟨br, 3, none⟩) ho.2.2.2 (.bool bb)
            have s0 := hz.cell 0
            have s1' := hz.cell 1
            have s2' := hz.cell 2
            have s3 := hz.cell 3
            simp at s0 s1' s2' s3
            generalize ((((W9.setCell ⟨br, 0, none⟩ (.int .i64 (k : Int))).setCell ⟨br, 1, none⟩ (.slice a8 XL.length c8)).setCell ⟨br, 2, none⟩ (.slice a16 YL.length c16)).setCell ⟨br, 3, none⟩ (.bool bb)) = wZ at *
            exact bodyPost_ret (v := .tuple #[.agg #[.int .i64 (k : Int), .slice a8 XL.length c8, .slice a16 YL.length c16, .bool bb], .bool true]) (by simp [results, Try.results23, go_sem, s0, s1', s2', s3]) rfl ⟨_, _, by rw [HPK2.out]; unfold jobP jobV; simp only [HB9.out]; rfl, by rw [HPK2.out]; show wZ.ownsRow _ _ _ _ (srcP l.t k (A k)).length (tcs (srcP l.t k (A k))); rw [HXL.out]; exact Mf.lowerR hx (by omega), by rw [HPK2.out]; show wZ.ownsRow _ _ _ _ (dstP l.t k (A k)).length (tcs (dstP l.t k (A k))); rw [HD9.out]; exact Mf.lowerR hy (by omega), hbz⟩
      · have hdue : Hid (isDue ⟨x0, x1, x2, x3, x4, x5, x6, x7⟩ l.t k = false) := HDK.out.trans (decide_eq_false hdu)
        have hle : s1 ≤ s2 := by omega
        have HNO : Hid (∀ j, j < k + 1 → isDue ⟨x0, x1, x2, x3, x4, x5, x6, x7⟩ l.t j = false) := fun j hj => by
          by_cases e : j = k
          · subst e; exact hdue.out
          · exact hno.out j (by omega)
        clear hno rk yk zk xk hb4 hB HS4 HDK
        go_wp2_with fail
        go_roundw
        case rel => exact ⟨k + 1, by omega, by go_num, HNO, hB4⟩
        case measure => simp [intOf]; omega
    · obtain rfl : k = 3 := by omega
      have HN := Lib.hid (HPN.out hno.out)
      have r0 := rk.cell 0; have f0 := rk.frozen 0; have r1 := rk.cell 1; have f1 := rk.frozen 1; have r2 := rk.cell 2; have f2 := rk.frozen 2; have r3 := rk.cell 3; have f3 := rk.frozen 3; simp at r0 r1 r2 r3
      clear yk zk xk hno
      go_wp2_with fail
      rw [setCell_self r0, setCell_self r1, setCell_self r2, setCell_self r3]
      exact bodyPost_ret (v := .tuple #[.agg #[.int .i64 0, .slice none 0 0, .slice none 0 0, .bool false], .bool false]) (by simp [results, Try.results23, go_sem, r0, r1, r2, r3]) rfl ⟨.slice none 0 0, .slice none 0 0, by rw [HN.out]; rfl, by rw [HN.out]; exact World.ownsRow_nil _ _ _ _, by rw [HN.out]; exact World.ownsRow_nil _ _ _ _, bk⟩
end Cp
end Go.Proofs.Ytpldfdlnhgmnaaa
