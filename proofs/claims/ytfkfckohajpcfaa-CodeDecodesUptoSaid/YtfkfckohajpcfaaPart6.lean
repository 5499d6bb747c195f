import Derived.Lib.AppendStr
import Derived.Deep.AppendLies
import Derived.Below
import Derived.Deep.RegionWith
import Derived.Deep.LoopGhost
import Derived.LoopTactic
import Derived.Deep.RegionHeld3
import Derived.Test.YtfkfckohajpcfaaProg
import Derived.JoinedCond
import Derived.ProofKit
import Derived.Test.YtfkfckohajpcfaaPart5
/-
  The program's code.Decode: P13.5 whole.
-/
namespace Go.Proofs.Ytfkfckohajpcfaa
open Go.RowKit
set_option linter.unusedSimpArgs false
set_option linter.unusedVariables false
namespace Co
def rsv (l : Dat) (z : RS) : List Value := [.string (Cd.bs l), .int .i64 (z.1 : Int), .int .i64 (z.2 : Int)]

set_option maxRecDepth 100000 in
set_option maxHeartbeats 16000000 in
theorem decode_any (l : Dat) (w : World) (hl : l.length ≤ 2097152) :
    Calls Try.prog 23 #[.string (Cd.bs l)] w (DecOut13 (decA l) w) := by
  obtain ⟨i0, hi0, hz0, hz1, hz2⟩ := info_parts info_Func13
  obtain ⟨j0, ji0, jz0, jz1, jz2⟩ := info_parts info_Opts13
  have hdec : decA l = decB l ⟨(qFs l).1, (qOs l).1⟩ (qOs l).2 := rfl
  have HRO := Lib.hid (fun (h : (qOs l).2.2 = 0) => read_ok h)
  have l0 : (pF l).2.1 ≤ l.length := (rdU_rd 16 (by decide)).le l (0, 0) (Nat.zero_le _)
  have m0 : (pF l).1 ≤ 16 := rdU_le l 16 _
  have HU1 := Lib.hid (fun W (h : Tk W (w.heap.size + 1) l (0, 0)) => show Calls Try.prog 37 #[.pointer (some ⟨w.heap.size + 1, 0, none⟩), .int .u64 16] W fun r w' => r = .returned (.int .i64 ((pF l).1 : Int)) ∧ Tk w' (w.heap.size + 1) l (pF l).2 ∧ Sq.Kept (fun k => k ≠ w.heap.size + 1) W w' from unsigned_any (w.heap.size + 1) l (0, 0) 16 16 rfl W h (Nat.zero_le _) hl (by decide))
  have hF0 : qFs l = goA rdFnA l (pF l).1 [] (pF l).2 := rfl
  have hO0 : qO l = rdU l 8 (qFs l).2 := rfl
  have hOs : qOs l = goA rdOpt l (qO l).1 [] (qO l).2 := rfl
  generalize pF l = yF at *
  obtain ⟨K1, s1⟩ := yF
  simp only at l0 m0 HU1 hF0
  have HD := Lib.hid hdec
  have HF0 := Lib.hid hF0
  have HO0 := Lib.hid hO0
  have HOS := Lib.hid hOs
  clear hdec hF0 hO0 hOs
  have hsz : (Cd.bs l).size = l.length := rfl
  have OR := Lib.hid (Ob.Obj.new w 27 [.slice none 0 0, .slice none 0 0])
  have HB0 := Lib.hid (show Below w.heap.size w (w.alloc (.cells #[.slice none 0 0, .slice none 0 0] 27)) from (Below.refl _ _).alloc (Nat.le_refl _) _)
  obtain ⟨wa, hwa⟩ : ∃ wa, wa = w.alloc (.cells #[.slice none 0 0, .slice none 0 0] 27) := ⟨_, rfl⟩
  have hsa : wa.heap.size = w.heap.size + 1 := by rw [hwa]; simp
  have oT := Ob.Obj.new wa 69 [.string (Cd.bs l), .int .i64 0, .int .i64 0]
  rw [hsa] at oT
  obtain ⟨wb, hwb⟩ : ∃ wb, wb = wa.alloc (.cells #[.string (Cd.bs l), .int .i64 0, .int .i64 0] 69) := ⟨_, rfl⟩
  have hsb : wb.heap.size = w.heap.size + 2 := by rw [hwb]; simp [hsa]
  have oP := Ob.Obj.new wb 27 [.slice none 0 0, .slice none 0 0]
  rw [hsb] at oP
  have HS0 := Lib.hid (show PD NL 69 w (w.heap.size + 1) (w.heap.size + 2) [] [] (.slice none 0 0) (.slice none 0 0) (rsv l (0, 0)) (wb.alloc (.cells #[.slice none 0 0, .slice none 0 0] 27)) from
    ⟨oP, World.ownsRow_nil _ _ _ _, fun x hx => (by cases hx), World.ownsRow_nil _ _ _ _, by rw [hwb]; exact Ob.Obj.alloc oT _, by rw [hwb, hwa]; exact (OR.out.alloc _).alloc _, by rw [hwb]; exact ((by rw [hwa]; exact HB0.out : Below w.heap.size w wa).alloc (by omega) _).alloc (by simp; omega) _, by omega, by omega, by omega, by decide, by decide, by decide⟩)
  have HT0 : Hid (Tk (wb.alloc (.cells #[.slice none 0 0, .slice none 0 0] 27)) (w.heap.size + 1) l (0, 0)) := HS0.out.tk
  rw [hwb, hwa] at HS0 HT0
  clear hwb hwa hsa hsb oT oP OR HB0
  go_enter Try.func23, Try.ntmps23
  go_wp2_with (go_at_call 37; (with_reducible refine (HU1.out _ HT0.out).mono ?_); rintro e w1 ⟨rfl, hT1, hk1⟩; have HS1 := Lib.hid (HS0.out.call hk1 hT1))
  clear hk1 hT1 HS0 HT0 HU1
  go_loopw [13] (fun i wr => ∃ (k : Nat) (LU : List (Fn × Value)) (s' : RS) (fv : Value), k ≤ K1 ∧ i = .int .i64 (k : Int) ∧ PD NL 69 w (w.heap.size + 1) (w.heap.size + 2) LU [] fv (.slice none 0 0) (rsv l s') wr ∧ LU.length ≤ k ∧ s'.1 ≤ l.length ∧ Hid (goA rdFnA l K1 [] s1 = goA rdFnA l (K1 - k) (LU.map (·.1)) s')) (fun i _ => K1 - (intOf i).toNat)
  case atStart => exact ⟨0, [], s1, _, Nat.zero_le _, rfl, HS1.out, Nat.le_refl _, l0, rfl⟩
  case round =>
    clear HS1
    obtain ⟨k, LU, s', fv, hk, rfl, hS, hLk, hsl, hgo⟩ := hrel
    obtain ⟨wo, rfl⟩ : ∃ wo : World, wo = wr := ⟨_, rfl⟩
    obtain ⟨ao, cap, rfl, hg0⟩ := Sq.row_cases hS.rowF
    by_cases hlt : k < K1
    · have hi1 : (k : Int) < (K1 : Int) := by omega
      have hstep : goA rdFnA l K1 [] s1 = goA rdFnA l (K1 - (k + 1)) (LU.map (·.1) ++ [(rdFnA l s').1]) (rdFnA l s').2 := by
        rw [hgo.out, show K1 - k = (K1 - (k + 1)) + 1 by omega, goA]
      have e1 : (rdFnA l s').2.1 ≤ l.length := by rw [rdFn_alike.state]; exact rdFn_rd.le l s' hsl
      have HX := Lib.hid (fun W (h : Tk W (w.heap.size + 1) l s') => function_any (w.heap.size + 1) l s' W h hsl hl)
      generalize rdFnA l s' = y1 at *
      obtain ⟨f, sa⟩ := y1
      simp only at hstep e1 HX
      have HST := Lib.hid hstep
      obtain ⟨b0, b1, f0, f1, z, zt⟩ := hS.cells
      have HS := Lib.hid (hS.below (Below.refl _ _).drew)
      clear hgo hS hstep b1 f0 f1
      go_wp2_with fail
      refine wp_region_noPanic ?_
      go_region_law (first
        | (go_simp; go_at_call 38; refine (HX.out _ HS.out.tk).mono ?_; rintro e w6 ⟨u, rfl, hu, hT, hk⟩; have HS6 := Lib.hid (HS.out.call hk hT); have HU6 := Lib.hid (lower13 hu (B' := w.heap.size) HS.out.be.size); obtain ⟨au, cu, rfl, hgu⟩ := Sq.row_cases hu; obtain ⟨c0, _, _, _, y2, _⟩ := HS6.out.cells; have hbz := HS6.out.be.size; clear hu)
        | (refine step_append_lies _ (by rfl) _ _ _ (by rfl) w.heap.size 52 i0 _ 3 40 Try.underlying24 hi0 hz0 hz1 hz2 rfl (by omega) (.slice ao LU.length cap) LU.length _ (by rfl) (HS6.out.rowF.alloc _)
            ⟨w6.heap.size, 0, none⟩ 1 1 [.int .i64 f.kind, .int .i64 f.name, .slice au f.ops.length cu] (by rfl) (by rfl) (World.news_of_block (cs := #[.int .i64 f.kind, .int .i64 f.name, .slice au f.ops.length cu]) (t := 52) (fr := (0, 0)) (heap_alloc_new w6 _)) (by simp [Value.oneCell'])
            (by omega) (by unfold maxLen; omega) (by omega) (by simp at *; omega) (w6.heap.size + 1) (by simp) ?_; intro gb cap8 w8 hown hgrow hat8 hlt8; have HS8 := Lib.hid (HS6.out.below ((Below.refl _ _).alloc (Nat.le_refl _) (.cells #[.int .i64 f.kind, .int .i64 f.name, .slice au f.ops.length cu] 52))); have hob := HS8.out.box.grown hgrow (HS8.out.box.not_row (by decide) HS8.out.rowF); have c8 := hob.cell 0; have f8 := hob.frozen 0; simp at c8; have HS9 := Lib.hid (HS8.out.addF f (.slice au f.ops.length cu) (HU6.out.alloc _) hown hgrow); clear hown hgrow hob))
      all_goals
        refine NoPanic.normal ?_
        go_wp2_with fail
        go_roundw
        case rel => exact ⟨k + 1, LU ++ [(f, .slice au f.ops.length cu)], sa, _, by omega, by go_num, HS9.out, by rw [List.length_append, List.length_singleton]; omega, e1, by rw [List.map_append]; exact HST⟩
        case measure => simp [intOf]; omega
    · obtain rfl : k = K1 := by omega
      have hex : qFs l = (LU.map (·.1), s') := by rw [HF0.out, hgo.out, Nat.sub_self, goA]
      have hqo := HO0.out
      rw [hex] at hqo
      simp only at hqo
      have hos := HOS.out
      rw [hqo] at hos
      have HU2 := Lib.hid (fun W (h : Tk W (w.heap.size + 1) l s') => unsigned_any (w.heap.size + 1) l s' 8 8 rfl W h hsl hl (by decide))
      have l2 : (rdU l 8 s').2.1 ≤ l.length := (rdU_rd 8 (by decide)).le l s' hsl
      have m2 : (rdU l 8 s').1 ≤ 8 := rdU_le l 8 _
      generalize rdU l 8 s' = y2 at *
      obtain ⟨K2, s2⟩ := y2
      simp only at hos HU2 l2 m2
      have HEX := Lib.hid hex
      have HOS2 := Lib.hid hos
      have HS := Lib.hid hS
      have HT2 : Hid (Tk wo (w.heap.size + 1) l s') := hS.tk
      clear hgo hex hqo hos hS HOS HO0 HF0
      go_wp2_with (go_at_call 37; (with_reducible refine (HU2.out _ HT2.out).mono ?_); rintro e w3 ⟨rfl, hT3, hk3⟩; have HS3 := Lib.hid (HS.out.call hk3 hT3))
      clear hT3 hk3 HS HT2 HU2
      go_loopw [23] (fun i wr => ∃ (k : Nat) (O : List Opt) (s3 : RS) (ov : Value), k ≤ K2 ∧ i = .int .i64 (k : Int) ∧ PD NL 69 w (w.heap.size + 1) (w.heap.size + 2) LU O (.slice ao LU.length cap) ov (rsv l s3) wr ∧ O.length ≤ k ∧ s3.1 ≤ l.length ∧ Hid (goA rdOpt l K2 [] s2 = goA rdOpt l (K2 - k) O s3)) (fun i _ => K2 - (intOf i).toNat)
      case atStart => exact ⟨0, [], s2, _, Nat.zero_le _, rfl, HS3.out, Nat.le_refl _, l2, rfl⟩
      case round =>
        clear HS3
        obtain ⟨k2, O, s3, ov, hk2, rfl, hS, hOk, hsl3, hgo⟩ := hrel
        obtain ⟨wo, rfl⟩ : ∃ wo : World, wo = wr := ⟨_, rfl⟩
        obtain ⟨oo, ocap, rfl, hg1⟩ := Sq.row_cases hS.rowO
        by_cases hlt : k2 < K2
        · have hi1 : (k2 : Int) < (K2 : Int) := by omega
          have hstep : goA rdOpt l K2 [] s2 = goA rdOpt l (K2 - (k2 + 1)) (O ++ [(rdOpt l s3).1]) (rdOpt l s3).2 := by
            rw [hgo.out, show K2 - k2 = (K2 - (k2 + 1)) + 1 by omega, goA]
          have e1 : (rdOpt l s3).2.1 ≤ l.length := rdOpt_rd.le l s3 hsl3
          have HX := Lib.hid (fun W (h : Tk W (w.heap.size + 1) l s3) => opts_any (w.heap.size + 1) l s3 W h hsl3 hl)
          generalize rdOpt l s3 = y1 at *
          obtain ⟨⟨q0, q1, q2, q3, q4, q5, q6, q7, q8, q9, qN⟩, sa⟩ := y1
          simp only at hstep e1 HX
          unfold OptOut optV at HX
          simp only at HX
          have HST := Lib.hid hstep
          obtain ⟨b0, b1, f0, f1, z, zt⟩ := hS.cells
          have HS := Lib.hid (hS.below (Below.refl _ _).drew)
          clear hgo hS hstep b0 f0 f1
          go_wp2_with fail
          refine wp_region_noPanic ?_
          go_region_law (first
            | (go_simp; go_at_call 39; refine (HX.out _ HS.out.tk).mono ?_; rintro e w6 ⟨rfl, hT, hk⟩; have HS6 := Lib.hid (HS.out.call hk hT); obtain ⟨_, c1, _, _, y2, _⟩ := HS6.out.cells; have hbz := HS6.out.be.size)
            | (refine step_append_lies _ (by rfl) _ _ _ (by rfl) w.heap.size 54 j0 _ 11 88 Try.underlying25 ji0 jz0 jz1 jz2 rfl (by omega) (.slice oo O.length ocap) O.length _ (by rfl) (HS6.out.rowO.alloc _)
                ⟨w6.heap.size, 0, none⟩ 1 1 [.int .i64 q0, .int .i64 q1, .int .i64 q2, .int .i64 q3, .int .i64 q4, .int .i64 q5, .int .i64 q6, .int .i64 q7, .int .i64 q8, .int .i64 q9, .int .i64 qN] (by rfl) (by rfl) (World.news_of_block (cs := #[.int .i64 q0, .int .i64 q1, .int .i64 q2, .int .i64 q3, .int .i64 q4, .int .i64 q5, .int .i64 q6, .int .i64 q7, .int .i64 q8, .int .i64 q9, .int .i64 qN]) (t := 54) (fr := (0, 0)) (heap_alloc_new w6 _)) (by simp [Value.oneCell'])
                (by omega) (by unfold maxLen; omega) (by omega) (by simp at *; omega) (w6.heap.size + 1) (by simp) ?_; intro gb cap8 w8 hown hgrow hat8 hlt8; have HS8 := Lib.hid (HS6.out.below ((Below.refl _ _).alloc (Nat.le_refl _) (.cells #[.int .i64 q0, .int .i64 q1, .int .i64 q2, .int .i64 q3, .int .i64 q4, .int .i64 q5, .int .i64 q6, .int .i64 q7, .int .i64 q8, .int .i64 q9, .int .i64 qN] 54))); have hob := HS8.out.box.grown hgrow (HS8.out.box.not_row (by decide) HS8.out.rowO); have c8 := hob.cell 1; have f8 := hob.frozen 1; simp at c8; have HS9 := Lib.hid (HS8.out.addO ⟨q0, q1, q2, q3, q4, q5, q6, q7, q8, q9, qN⟩ hown hgrow); clear hown hgrow hob))
          all_goals
            refine NoPanic.normal ?_
            go_wp2_with fail
            go_roundw
            case rel => exact ⟨k2 + 1, O ++ [⟨q0, q1, q2, q3, q4, q5, q6, q7, q8, q9, qN⟩], sa, _, by omega, by go_num, HS9.out, by rw [List.length_append, List.length_singleton]; omega, e1, HST⟩
            case measure => simp [intOf]; omega
        · obtain rfl : k2 = K2 := by omega
          have hqs : qOs l = (O, s3) := by rw [HOS2.out, hgo.out, Nat.sub_self, goA]
          have hd := HD.out
          have hro := HRO.out
          rw [hqs, HEX.out] at hd hro
          simp only at hd hro
          obtain ⟨at', er⟩ := s3
          simp only at hsl3
          have t0 := hS.tk.cell 0
          have t1 := hS.tk.cell 1
          have t2 := hS.tk.cell 2
          have ft1 := hS.tk.frozen 1
          have ft2 := hS.tk.frozen 2
          unfold rsv at t0 t1 t2
          simp at t0 t1 t2
          obtain ⟨b0, b1, f0, f1, z, zt⟩ := hS.cells
          obtain ⟨r0, r1, g0, g1, rz⟩ := hS.rcells
          have HS := Lib.hid hS
          clear hgo hqs HD HRO HOS2 HEX
          by_cases he : er = 0
          · subst he
            by_cases hat : at' < l.length
            · have hai : (at' : Int) < (l.length : Int) := by omega
              have HE := Lib.hid (show decA l = (empty, 3, at') by rw [hd]; unfold decB; rw [if_neg (by simp), if_pos hat])
              clear hd hro hat
              go_wp2_with fail
              go_big_region
              all_goals (try go_wp2_with fail)
              all_goals refine bodyPost_ret (v := .tuple #[.agg #[.slice none 0 0, .slice none 0 0], .int .i64 3, .int .i64 (at' : Int)]) (by simp [results, Try.results23, go_sem, r0, r1, rz]) rfl ?_
              all_goals rw [HE.out]
              all_goals refine ⟨_, _, rfl, empty_pr _ _, ?_⟩
              all_goals exact (((HS.out.be.setCell (p := ⟨w.heap.size + 1, 2, none⟩) (by show w.heap.size ≤ w.heap.size + 1; omega) _).setCell (p := ⟨w.heap.size, 0, none⟩) (Nat.le_refl _) _).setCell (p := ⟨w.heap.size, 1, none⟩) (Nat.le_refl _) _).drew
            · have hai : ¬ (at' : Int) < (l.length : Int) := by omega
              obtain ⟨hp, hz⟩ := hro rfl
              have hpk : POk ⟨LU.map (·.1), O⟩ := by rw [hp]; exact (rd_sound (by rw [hz])).2
              have hdd : decA l = if (check ⟨LU.map (·.1), O⟩).1 ≠ 0 then (empty, 40, 0) else (⟨LU.map (·.1), O⟩, 0, 0) := by rw [hd]; unfold decB; rw [if_neg (by simp), if_neg hat]
              have HCK := Lib.hid (check_any _ _ _ wo hS.pr (pok_in hpk))
              clear hd hro hp hz hat
              rcases check_cases (⟨LU.map (·.1), O⟩ : Prog) with hbad | hgood
              · obtain ⟨x, y, hxy⟩ : ∃ x y, check (⟨LU.map (·.1), O⟩ : Prog) = (40, x, y) := by
                  generalize check (⟨LU.map (·.1), O⟩ : Prog) = r at *
                  obtain ⟨a, b, c⟩ := r
                  change a = 40 at hbad
                  subst hbad
                  exact ⟨_, _, rfl⟩
                have HE := Lib.hid (show decA l = (empty, 40, 0) by rw [hdd, hxy]; rfl)
                rw [hxy] at HCK
                unfold chkV at HCK
                simp only at HCK
                clear hdd hxy hbad
                go_wp2_with (go_at_call 16; (with_reducible refine HCK.out.mono ?_); rintro e w4 ⟨rfl, hb4⟩; have HS4 := Lib.hid (HS.out.below hb4); obtain ⟨x0, x1, _, _, _, _⟩ := HS4.out.cells; obtain ⟨y0, y1, v0, v1, vz⟩ := HS4.out.rcells; clear r0 r1 g0 g1 rz b0 b1 f0 f1)
                refine bodyPost_ret (v := .tuple #[.agg #[.slice none 0 0, .slice none 0 0], .int .i64 40, .int .i64 0]) (by simp [results, Try.results23, go_sem, y0, y1, vz]) rfl ?_
                rw [HE.out]
                exact ⟨_, _, rfl, empty_pr _ _, (HS4.out.be.setCell (p := ⟨w.heap.size, 0, none⟩) (Nat.le_refl _) _).setCell (p := ⟨w.heap.size, 1, none⟩) (Nat.le_refl _) _⟩
              · have HE := Lib.hid (show decA l = (⟨LU.map (·.1), O⟩, 0, 0) by rw [hdd, hgood]; rfl)
                rw [hgood] at HCK
                unfold chkV at HCK
                simp only at HCK
                clear hdd hgood
                go_wp2_with (go_at_call 16; (with_reducible refine HCK.out.mono ?_); rintro e w4 ⟨rfl, hb4⟩; have HS4 := Lib.hid (HS.out.below hb4); obtain ⟨x0, x1, _, _, _, _⟩ := HS4.out.cells; obtain ⟨y0, y1, v0, v1, vz⟩ := HS4.out.rcells; clear r0 r1 g0 g1 rz b0 b1 f0 f1)
                refine bodyPost_ret (v := .tuple #[.agg #[.slice ao LU.length cap, .slice oo O.length ocap], .int .i64 0, .int .i64 0]) (by simp [results, Try.results23, go_sem, y0, y1, vz]) rfl ?_
                rw [HE.out]
                exact ⟨_, _, rfl, HS4.out.res2 _ _, (HS4.out.be.setCell (p := ⟨w.heap.size, 0, none⟩) (Nat.le_refl _) _).setCell (p := ⟨w.heap.size, 1, none⟩) (Nat.le_refl _) _⟩
          · have heb : (((er : Nat) : Int) != 0) = true := by simp; omega
            have heb2 : (((er : Nat) : Int) == 0) = false := by simp; omega
            have HE := Lib.hid (show decA l = (empty, er, at') by rw [hd]; unfold decB; rw [if_pos he])
            clear hd hro he
            go_wp2_with fail
            go_big_region
            all_goals (try go_wp2_with fail)
            all_goals refine bodyPost_ret (v := .tuple #[.agg #[.slice none 0 0, .slice none 0 0], .int .i64 (er : Int), .int .i64 (at' : Int)]) (by simp [results, Try.results23, go_sem, r0, r1, rz]) rfl ?_
            all_goals rw [HE.out]
            all_goals refine ⟨_, _, rfl, empty_pr _ _, ?_⟩
            all_goals exact ((HS.out.be.setCell (p := ⟨w.heap.size, 0, none⟩) (Nat.le_refl _) _).setCell (p := ⟨w.heap.size, 1, none⟩) (Nat.le_refl _) _).drew
end Co
end Go.Proofs.Ytfkfckohajpcfaa

/-
  append of a string's bytes onto bytes that the call owns: where the new slice lies; as one step of a region that draws its order.
-/
namespace Go.Proofs.Ytfkfckohajpcfaa
open Go.RowKit Go.Lib
set_option linter.unusedVariables false
namespace As
section
variable {P : Program} (w : World)
theorem run_lies (t u ty : TypeId) (base : Nat) (e : TypeId) (i : TypeInfo) (ht : P.underlying t = some (.slice e)) (hu : P.underlying u = some .string) (hi : P.info? e = some i) (hz : i.zero = some (.int .u8 0))
    (hsize : i.size = 1) (hby : i.bytes = 1) (v : Value) (n : Nat) (xs : List Value) (hown : w.ownsRow base e 1 v n xs) (s : ByteArray)
    (h63 : n + s.size ≤ maxLen) (hbytes : n + s.size ≤ 140737488355328) (hbase : base ≤ w.heap.size) (k : Nat) (hk : n + s.size = k) :
    ∃ ao cap w', (Builtin.append_ #[t, u] ty #[v, .string s]).run P w = .ok (.slice ao k cap) w' ∧ w'.ownsRow base e 1 (.slice ao k cap) k (xs ++ strCells s) ∧ w.grownBy w' v.ownBlock ∧
      (∀ g, (Value.slice ao k cap).ownBlock = some g → v.ownBlock = some g ∨ g = w.heap.size) := by
  obtain ⟨v', w', hr, h2, h3, h4⟩ := run_append_own_string (P := P) w base t u ty e i ht hu hi hz hsize hby v n xs hown s h63 hbytes hbase
  have hb : ∀ g, v'.ownBlock = some g → v.ownBlock = some g ∨ g = w.heap.size := by
    rcases hown.2 with ⟨hv, hn⟩ | ⟨g, cap, cur, hv, hbg, hg, hnc, hcm, hcs, htake⟩
    · subst hv; subst hn
      by_cases hm : s.size = 0
      · have := h4.2 ⟨rfl, hm⟩
        subst this
        intro g hg; simp [Value.ownBlock] at hg
      · have hr2 := run_append_nil_string (P := P) w t u ty e i (.int .u8 0) ht hu hi hz s (by omega) (by simp only [maxLen] at h63; omega) (by rw [hby]; omega)
        rw [hr2] at hr
        injection hr with e1 e2
        subst e1
        intro g hg; simp [Value.ownBlock] at hg; exact .inr hg.symm
    · subst hv
      by_cases hroom : n + s.size ≤ cap
      · have hcs' : cur.size = cap := by simpa using hcs
        have hr2 := run_append_room_string (P := P) w t u ty e i ht hu hi hsize g n cap cur hg s hroom (by omega)
        rw [hr2] at hr
        injection hr with e1 e2
        subst e1
        intro g' hg'; simp [Value.ownBlock] at hg'; subst hg'; exact .inl rfl
      · have hxl : xs.length = n := by simpa using hown.1
        have hr2 := run_append_grow_string (P := P) w t u ty e i (.int .u8 0) ht hu hi hz ⟨g, 0, none⟩ n cap xs (by rw [hsize]; simpa using hxl) (hown.cells (g := g) rfl) s (by omega) (by simp only [maxLen] at h63; omega) (by rw [hby]; exact growslice_fits (by omega) (by omega))
        rw [hr2] at hr
        injection hr with e1 e2
        subst e1
        intro g' hg'; simp [Value.ownBlock] at hg'; exact .inr hg'.symm
  have hf : ∃ ao cap, v' = .slice ao k cap := by
    rcases h2.2 with ⟨hv, h0⟩ | ⟨g, cap, cur, hv, _⟩
    · exact ⟨none, 0, by rw [hv, ← hk, h0]⟩
    · exact ⟨_, cap, by rw [hv, hk]⟩
  obtain ⟨ao, cap, rfl⟩ := hf
  rw [hk] at h2
  exact ⟨ao, cap, w', hr, h2, h3, hb⟩

/-- at a step of a region that draws its order -/
theorem step {ops : Array Oper} {o : Oper} {a : Act} {K : Act → World → Prop} {Q : Exit → Act → World → Prop} {E : Prop} (hgd : o.guard = none) (sl x : Operand) (t u : TypeId)
    (ho : o.op = .call { callee := .builtin .append, args := #[sl, x], argTypes := #[t, u] })
    (base : Nat) (e : TypeId) (i : TypeInfo) (ht : P.underlying t = some (.slice e)) (hu : P.underlying u = some .string) (hi : P.info? e = some i) (hz : i.zero = some (.int .u8 0))
    (hsize : i.size = 1) (hby : i.bytes = 1)
    (v : Value) (n : Nat) (xs : List Value) (hs : a.eval sl = v) (hown : w.ownsRow base e 1 v n xs) (s : ByteArray) (hx : a.eval x = .string s)
    (h63 : n + s.size ≤ maxLen) (hbytes : n + s.size ≤ 140737488355328) (hbase : base ≤ w.heap.size) (k : Nat) (hk : n + s.size = k)
    (h : ∀ ao cap w', w'.ownsRow base e 1 (.slice ao k cap) k (xs ++ strCells s) → w.grownBy w' v.ownBlock → (∀ g, (Value.slice ao k cap).ownBlock = some g → v.ownBlock = some g ∨ g = w.heap.size) → K (a.put o.dst (.slice ao k cap)) w') :
    if Region.wanted o (yielded ops a.tmps) = true then Oper.wp P o a w K Q else E := by
  have hw : Region.wanted o (yielded ops a.tmps) = true := by simp [Region.wanted, hgd]
  rw [if_pos hw]
  obtain ⟨ao, cap, w', hr, h2, h3, h4⟩ := run_lies (P := P) w t u o.type base e i ht hu hi hz hsize hby v n xs hown s h63 hbytes hbase k hk
  unfold Oper.wp execOp
  simp only [ho, resolve, invoke, builtin, Sem.run_bind, Sem.run_pure, Result.andThen_ok, List.map_toArray, List.map_cons, List.map_nil, hs, hx, hr]
  exact h ao cap w' h2 h3 h4

theorem wpList {ops : Array Oper} {rest : List Oper} {o : Oper} {a : Act} {Q : Exit → Act → World → Prop} (hgd : o.guard = none) (sl x : Operand) (t u : TypeId)
    (ho : o.op = .call { callee := .builtin .append, args := #[sl, x], argTypes := #[t, u] })
    (base : Nat) (e : TypeId) (i : TypeInfo) (ht : P.underlying t = some (.slice e)) (hu : P.underlying u = some .string) (hi : P.info? e = some i) (hz : i.zero = some (.int .u8 0))
    (hsize : i.size = 1) (hby : i.bytes = 1)
    (v : Value) (n : Nat) (xs : List Value) (hs : a.eval sl = v) (hown : w.ownsRow base e 1 v n xs) (s : ByteArray) (hx : a.eval x = .string s)
    (h63 : n + s.size ≤ maxLen) (hbytes : n + s.size ≤ 140737488355328) (hbase : base ≤ w.heap.size) (k : Nat) (hk : n + s.size = k)
    (h : ∀ ao cap w', w'.ownsRow base e 1 (.slice ao k cap) k (xs ++ strCells s) → w.grownBy w' v.ownBlock → (∀ g, (Value.slice ao k cap).ownBlock = some g → v.ownBlock = some g ∨ g = w.heap.size) → Go.wpList P ops Q rest (a.put o.dst (.slice ao k cap)) w') : Go.wpList P ops Q (o :: rest) a w := by
  refine wpList_plain hgd fun K hK => ?_
  obtain ⟨ao, cap, w', hr, h2, h3, h4⟩ := run_lies (P := P) w t u o.type base e i ht hu hi hz hsize hby v n xs hown s h63 hbytes hbase k hk
  unfold Oper.wp execOp
  simp only [ho, resolve, invoke, builtin, Sem.run_bind, Sem.run_pure, Result.andThen_ok, List.map_toArray, List.map_cons, List.map_nil, hs, hx, hr]
  exact hK _ _ (h ao cap w' h2 h3 h4)
end
end As
end Go.Proofs.Ytfkfckohajpcfaa

/-
  The program's putters of numbers (code.putUints): onto bytes that the call's caller owns.
-/
namespace Go.Proofs.Ytfkfckohajpcfaa
open Go.RowKit
set_option linter.unusedSimpArgs false
set_option linter.unusedVariables false
namespace Co
theorem info_u8c : (Try.prog.info? 5).map (fun i => (i.zero, i.size, i.bytes)) = some (some (.int .u8 0), 1, 1) := by kernel_rfl
/-- what stood below B, and all that is no row of bytes, stands -/
structure M8 (B : Nat) (W W' : World) : Prop where
  be : Below B W W'
  ob : ∀ b t cs, t ≠ 5 → Ob.Obj W b t cs → Ob.Obj W' b t cs
theorem M8.refl (B : Nat) (W : World) : M8 B W W := ⟨Below.refl _ _, fun _ _ _ _ h => h⟩
theorem M8.trans {B : Nat} {a b c : World} (h : M8 B a b) (k : M8 B b c) : M8 B a c := ⟨h.be.trans k.be, fun b t cs ht ho => k.ob b t cs ht (h.ob b t cs ht ho)⟩
theorem M8.below {B : Nat} {W W' : World} (hb : Below W.heap.size W W') (hB : B ≤ W.heap.size) : M8 B W W' := ⟨hb.mono hB, fun b t cs _ ho => ho.below hb⟩
theorem M8.less {B B' : Nat} {W W' : World} (h : M8 B W W') (hB : B' ≤ B) : M8 B' W W' := ⟨h.be.mono hB, h.ob⟩
theorem strCells_cs13 (s : Dat) : Lib.strCells (Cd.bs s) = Cd.cs s := by simp [Lib.strCells, Cd.cs, Lib.byteCells]
theorem cs_app (a b : Dat) : Cd.cs a ++ Cd.cs b = Cd.cs (a ++ b) := by simp [Cd.cs, Lib.byteCells]
/-- bytes that are the call's own -/
def Byt (B : Nat) (W : World) (v : Value) (l : Dat) : Prop := W.ownsRow B 5 1 v l.length (Cd.cs l)
theorem Byt.nil (B : Nat) (W : World) : Byt B W (.slice none 0 0) [] := World.ownsRow_nil _ _ _ _
theorem Byt.below {B : Nat} {W W' : World} {v : Value} {l : Dat} (h : Byt B W v l) (hb : Below W.heap.size W W') : Byt B W' v l := own_below h hb
theorem Byt.app {B : Nat} {W W2 : World} {v : Value} {l s l2 : Dat} {ao : Option Addr} {cap : Nat} (h : Byt B W v l) (hl : l2 = l ++ s) (hown : W2.ownsRow B 5 1 (.slice ao l2.length cap) l2.length (Cd.cs l ++ Lib.strCells (Cd.bs s))) (hg : W.grownBy W2 v.ownBlock) (hB : B ≤ W.heap.size) :
    Byt B W2 (.slice ao l2.length cap) l2 ∧ M8 B W W2 := by
  subst hl
  rw [strCells_cs13, cs_app] at hown
  exact ⟨hown, (Sq.Kept.grown (T := fun k => v.ownBlock ≠ some k) hg (fun r hr hn => hn hr)).below (fun k hk e => by have := (Ob.row_lt h e).1; omega) hB, fun b t cs ht ho => ho.grown hg (ho.not_row ht h)⟩
theorem Byt.drew {B : Nat} {W : World} {v : Value} {l : Dat} (h : Byt B W v l) : Byt B W.drew v l := h
theorem Byt.obj {B : Nat} {W : World} {v : Value} {l : Dat} (h : Byt B W v l) (o : Obj) : Byt B (W.alloc o) v l := World.ownsRow.alloc h o
theorem num_cells {W : World} {nb : Nat} {t : TypeId} {L : List Int} (h : Ob.Obj W nb t (L.map fun d => .int .i64 d)) (q : Nat) (hq : q < L.length) : W.cell? ⟨nb, q, none⟩ = some (.int .i64 L[q]) := by
  rw [h.cell q]; simp [hq]

set_option maxRecDepth 100000 in
set_option maxHeartbeats 4000000 in
theorem putI_any (B nb : Nat) (v : Value) (l : Dat) (L : List Int) (n : Nat) (w : World) (hn : n = L.length) (hV : Byt B w v l) (hO : Ob.Obj w nb 3 (L.map fun d => .int .i64 d)) (hB : B ≤ w.heap.size) (hin : ∀ d ∈ L, 0 ≤ d ∧ d ≤ 1099511627776) (hl : l.length ≤ 1000000) (hL : L.length ≤ 100) :
    Calls Try.prog 32 #[v, .slice (some ⟨nb, 0, none⟩) n n] w fun e w' => ∃ ao cap, e = .returned (.slice ao (l ++ L.flatMap putN).length cap) ∧ Byt B w' (.slice ao (l ++ L.flatMap putN).length cap) (l ++ L.flatMap putN) ∧ M8 B w w' := by
  subst hn
  have HO := Lib.hid hO
  have HB := Lib.hid hB
  obtain ⟨ao, cap, rfl, _⟩ := Sq.row_cases hV
  have HV := Lib.hid hV
  obtain ⟨i0, hi, hz0, hz1, hz2⟩ := info_parts info_u8c
  clear hV hO
  go_enter Try.func32, Try.ntmps32
  go_wp2_with fail
  go_loopw [0, 9] (fun s i wr => ∃ (q : Nat) (ao : Option Addr) (cap : Nat), q ≤ L.length ∧ i = .int .i64 (q : Int) ∧ s = .slice ao (l ++ (L.take q).flatMap putN).length cap ∧ Byt B wr s (l ++ (L.take q).flatMap putN) ∧ M8 B w wr) (fun _ i _ => L.length - (intOf i).toNat)
  case atStart => exact ⟨0, ao, cap, Nat.zero_le _, rfl, by simp, by simpa using HV.out, M8.refl _ _⟩
  case round =>
    obtain ⟨q, ao, cap, hq, rfl, rfl, hV, hM⟩ := hrel
    obtain ⟨wo, rfl⟩ : ∃ wo : World, wo = wr := ⟨_, rfl⟩
    have hsz : B ≤ wo.heap.size := Nat.le_trans HB.out hM.be.size
    by_cases hlt : q < L.length
    · have hO2 := hM.ob _ _ _ (by decide) HO.out
      have e0 := num_cells hO2 q hlt
      have hi1 : (0 : Int) ≤ (q : Int) ∧ (q : Int) < (L.length : Int) := by omega
      have hnb := hO2.lt
      have hd := hin L[q] (List.getElem_mem hlt)
      have hsl : (l ++ (L.take q).flatMap putN).length ≤ 1001000 := by
        rw [List.length_append]
        have := flat_len putN 10 (L.take q) (fun p hp => putN_len (hin p (List.mem_of_mem_take hp)))
        have : (L.take q).length ≤ 100 := by simp; omega
        omega
      have HTS := Lib.hid (show l ++ (L.take (q + 1)).flatMap putN = (l ++ (L.take q).flatMap putN) ++ putN L[q] by rw [flat_snoc putN hlt, List.append_assoc])
      generalize L[q] = d at *
      have hwd : IntKind.u64.wrap d = d := by rw [show IntKind.u64.wrap d = d % 18446744073709551616 from rfl]; omega
      have HQ := Lib.hid (fun W => show Calls Try.prog 48 #[.int .u64 d] W fun e w' => e = .returned (.string (Cd.bs (putN d))) ∧ Below W.heap.size W w' from putUc_at d d.toNat W (by omega) (by omega))
      have p1 := putN_len hd
      generalize l ++ (L.take q).flatMap putN = S3 at *
      generalize putN d = pd at *
      obtain ⟨S4, hS4⟩ : ∃ S4, S4 = S3 ++ pd := ⟨_, rfl⟩
      have HS4 := Lib.hid hS4
      rw [← hS4] at HTS
      have HKL := Lib.hid (show S3.length + (Cd.bs pd).size = S4.length by rw [hS4, List.length_append]; rfl)
      clear hS4
      have hpsz : (Cd.bs pd).size = pd.length := rfl
      have HK := Lib.hid (show S3.length + (Cd.bs pd).size ≤ 140737488355328 ∧ S3.length + (Cd.bs pd).size ≤ maxLen by unfold maxLen; omega)
      have HV := Lib.hid hV
      have HM := Lib.hid hM
      clear hV hM hO2
      go_wp2_with (first
        | (go_at_call 48; (with_reducible refine (HQ.out _).mono ?_); rintro e w3 ⟨rfl, hb3⟩; have hV3 := Lib.hid (HV.out.below hb3); have hM3 := Lib.hid (HM.out.trans (M8.below hb3 hsz)); have hs3 := Nat.le_trans hsz hb3.size)
        | (at_builtin; refine As.wpList _ rfl _ _ 60 9 rfl B 5 i0 Try.underlying60 Try.underlying9 hi hz0 hz1 hz2 _ S3.length _ rfl hV3.out (Cd.bs pd) rfl HK.out.2 HK.out.1 hs3 S4.length HKL.out ?_; intro ao4 cap4 w4 hown hgrow _; obtain ⟨hV4, hM4⟩ := hV3.out.app HS4.out hown hgrow hs3; have HV4 := Lib.hid hV4; have HM4 := Lib.hid (hM3.out.trans hM4); clear hown hgrow hV4 hM4))
      go_roundw
      case rel => exact ⟨q + 1, ao4, cap4, by omega, by go_num, by rw [HTS.out], by rw [HTS.out]; exact HV4.out, HM4.out⟩
      case measure => simp [intOf]; omega
    · obtain rfl : q = L.length := by omega
      rw [List.take_length] at hV ⊢
      go_wp2_with fail
      go_ret
      exact ⟨ao, cap, rfl, hV, hM⟩

set_option maxRecDepth 100000 in
set_option maxHeartbeats 4000000 in
theorem putL_any (B nb : Nat) (v : Value) (l : Dat) (L : List Int) (n : Nat) (w : World) (hn : n = L.length) (hV : Byt B w v l) (hO : Ob.Obj w nb 2 (L.map fun d => .int .i64 d)) (hB : B ≤ w.heap.size) (hin : ∀ d ∈ L, 0 ≤ d ∧ d ≤ 1099511627776) (hl : l.length ≤ 1000000) (hL : L.length ≤ 100) :
    Calls Try.prog 50 #[v, .slice (some ⟨nb, 0, none⟩) n n] w fun e w' => ∃ ao cap, e = .returned (.slice ao (l ++ L.flatMap putN).length cap) ∧ Byt B w' (.slice ao (l ++ L.flatMap putN).length cap) (l ++ L.flatMap putN) ∧ M8 B w w' := by
  subst hn
  have HO := Lib.hid hO
  have HB := Lib.hid hB
  obtain ⟨ao, cap, rfl, _⟩ := Sq.row_cases hV
  have HV := Lib.hid hV
  obtain ⟨i0, hi, hz0, hz1, hz2⟩ := info_parts info_u8c
  clear hV hO
  go_enter Try.func50, Try.ntmps50
  go_wp2_with fail
  go_loopw [0, 9] (fun s i wr => ∃ (q : Nat) (ao : Option Addr) (cap : Nat), q ≤ L.length ∧ i = .int .i64 (q : Int) ∧ s = .slice ao (l ++ (L.take q).flatMap putN).length cap ∧ Byt B wr s (l ++ (L.take q).flatMap putN) ∧ M8 B w wr) (fun _ i _ => L.length - (intOf i).toNat)
  case atStart => exact ⟨0, ao, cap, Nat.zero_le _, rfl, by simp, by simpa using HV.out, M8.refl _ _⟩
  case round =>
    obtain ⟨q, ao, cap, hq, rfl, rfl, hV, hM⟩ := hrel
    obtain ⟨wo, rfl⟩ : ∃ wo : World, wo = wr := ⟨_, rfl⟩
    have hsz : B ≤ wo.heap.size := Nat.le_trans HB.out hM.be.size
    by_cases hlt : q < L.length
    · have hO2 := hM.ob _ _ _ (by decide) HO.out
      have e0 := num_cells hO2 q hlt
      have hi1 : (0 : Int) ≤ (q : Int) ∧ (q : Int) < (L.length : Int) := by omega
      have hnb := hO2.lt
      have hd := hin L[q] (List.getElem_mem hlt)
      have hsl : (l ++ (L.take q).flatMap putN).length ≤ 1001000 := by
        rw [List.length_append]
        have := flat_len putN 10 (L.take q) (fun p hp => putN_len (hin p (List.mem_of_mem_take hp)))
        have : (L.take q).length ≤ 100 := by simp; omega
        omega
      have HTS := Lib.hid (show l ++ (L.take (q + 1)).flatMap putN = (l ++ (L.take q).flatMap putN) ++ putN L[q] by rw [flat_snoc putN hlt, List.append_assoc])
      generalize L[q] = d at *
      have hwd : IntKind.u64.wrap d = d := by rw [show IntKind.u64.wrap d = d % 18446744073709551616 from rfl]; omega
      have HQ := Lib.hid (fun W => show Calls Try.prog 48 #[.int .u64 d] W fun e w' => e = .returned (.string (Cd.bs (putN d))) ∧ Below W.heap.size W w' from putUc_at d d.toNat W (by omega) (by omega))
      have p1 := putN_len hd
      generalize l ++ (L.take q).flatMap putN = S3 at *
      generalize putN d = pd at *
      obtain ⟨S4, hS4⟩ : ∃ S4, S4 = S3 ++ pd := ⟨_, rfl⟩
      have HS4 := Lib.hid hS4
      rw [← hS4] at HTS
      have HKL := Lib.hid (show S3.length + (Cd.bs pd).size = S4.length by rw [hS4, List.length_append]; rfl)
      clear hS4
      have hpsz : (Cd.bs pd).size = pd.length := rfl
      have HK := Lib.hid (show S3.length + (Cd.bs pd).size ≤ 140737488355328 ∧ S3.length + (Cd.bs pd).size ≤ maxLen by unfold maxLen; omega)
      have HV := Lib.hid hV
      have HM := Lib.hid hM
      clear hV hM hO2
      go_wp2_with (first
        | (go_at_call 48; (with_reducible refine (HQ.out _).mono ?_); rintro e w3 ⟨rfl, hb3⟩; have hV3 := Lib.hid (HV.out.below hb3); have hM3 := Lib.hid (HM.out.trans (M8.below hb3 hsz)); have hs3 := Nat.le_trans hsz hb3.size)
        | (at_builtin; refine As.wpList _ rfl _ _ 60 9 rfl B 5 i0 Try.underlying60 Try.underlying9 hi hz0 hz1 hz2 _ S3.length _ rfl hV3.out (Cd.bs pd) rfl HK.out.2 HK.out.1 hs3 S4.length HKL.out ?_; intro ao4 cap4 w4 hown hgrow _; obtain ⟨hV4, hM4⟩ := hV3.out.app HS4.out hown hgrow hs3; have HV4 := Lib.hid hV4; have HM4 := Lib.hid (hM3.out.trans hM4); clear hown hgrow hV4 hM4))
      go_roundw
      case rel => exact ⟨q + 1, ao4, cap4, by omega, by go_num, by rw [HTS.out], by rw [HTS.out]; exact HV4.out, HM4.out⟩
      case measure => simp [intOf]; omega
    · obtain rfl : q = L.length := by omega
      rw [List.take_length] at hV ⊢
      go_wp2_with fail
      go_ret
      exact ⟨ao, cap, rfl, hV, hM⟩

end Co
end Go.Proofs.Ytfkfckohajpcfaa

/-
  The program's code.putOp, putOpts.
-/
namespace Go.Proofs.Ytfkfckohajpcfaa
open Go.RowKit
set_option linter.unusedSimpArgs false
set_option linter.unusedVariables false
namespace Co
/-- what a putter leaves -/
def PutOut (B : Nat) (w : World) (l2 : Dat) (e : Ending) (w' : World) : Prop := ∃ ao cap, e = .returned (.slice ao l2.length cap) ∧ Byt B w' (.slice ao l2.length cap) l2 ∧ M8 B w w'

theorem putI_at (B nb : Nat) (v : Value) (l l2 : Dat) (L : List Int) (n : Nat) (w : World) (h2 : l2 = l ++ L.flatMap putN) (hn : n = L.length) (hV : Byt B w v l) (hO : Ob.Obj w nb 3 (L.map fun d => .int .i64 d)) (hB : B ≤ w.heap.size) (hin : ∀ d ∈ L, 0 ≤ d ∧ d ≤ 1099511627776) (hl : l.length ≤ 1000000) (hL : L.length ≤ 100) :
    Calls Try.prog 32 #[v, .slice (some ⟨nb, 0, none⟩) n n] w (PutOut B w l2) := by
  subst h2
  exact putI_any B nb v l L n w hn hV hO hB hin hl hL

theorem putL_at (B nb : Nat) (v : Value) (l l2 : Dat) (L : List Int) (n : Nat) (w : World) (h2 : l2 = l ++ L.flatMap putN) (hn : n = L.length) (hV : Byt B w v l) (hO : Ob.Obj w nb 2 (L.map fun d => .int .i64 d)) (hB : B ≤ w.heap.size) (hin : ∀ d ∈ L, 0 ≤ d ∧ d ≤ 1099511627776) (hl : l.length ≤ 1000000) (hL : L.length ≤ 100) :
    Calls Try.prog 50 #[v, .slice (some ⟨nb, 0, none⟩) n n] w (PutOut B w l2) := by
  subst h2
  exact putL_any B nb v l L n w hn hV hO hB hin hl hL

set_option maxRecDepth 100000 in
set_option maxHeartbeats 4000000 in
theorem putOp_any (B : Nat) (v : Value) (l l2 : Dat) (o : Op2) (w : World) (h2 : l2 = l ++ putOp o) (hV : Byt B w v l) (hB : B ≤ w.heap.size) (ho : OpOk o) (hl : l.length ≤ 900000) :
    Calls Try.prog 33 #[v, .agg #[.int .i64 o.code, .int .i64 o.a]] w (PutOut B w l2) := by
  obtain ⟨code, a⟩ := o
  obtain ⟨c0, c1, hno, ha⟩ := ho
  simp only at *
  obtain ⟨ao, cap, rfl, _⟩ := Sq.row_cases hV
  obtain ⟨l1, hl1⟩ : ∃ l1, l1 = l ++ [code].flatMap putN := ⟨_, rfl⟩
  have p1 := putN_len ⟨c0, c1⟩
  have hll : l1.length ≤ 900010 := by rw [hl1]; simp only [List.flatMap_cons, List.flatMap_nil, List.append_nil, List.length_append]; omega
  have HA1 := Lib.hid (show M8 B w (w.alloc (.cells #[.int .i64 code, .int .i64 a] 59)) from M8.below ((Below.refl _ _).alloc (Nat.le_refl _) _) hB)
  have oO := Ob.Obj.new w 59 [.int .i64 code, .int .i64 a]
  have HV1 := Lib.hid (hV.obj (.cells #[.int .i64 code, .int .i64 a] 59))
  have oO1 := oO.alloc (.cells #[.int .i64 code] 3)
  have hs1 : B ≤ ((w.alloc (.cells #[.int .i64 code, .int .i64 a] 59)).alloc (.cells #[.int .i64 code] 3)).heap.size := by simp; omega
  have hO1 := Ob.Obj.new (w.alloc (.cells #[.int .i64 code, .int .i64 a] 59)) 3 [.int .i64 code]
  rw [show (w.alloc (.cells #[.int .i64 code, .int .i64 a] 59)).heap.size = w.heap.size + 1 by simp] at hO1
  have HP := Lib.hid (putI_at B (w.heap.size + 1) (.slice ao l.length cap) l l1 [code] 1 _ hl1 rfl (HV1.out.obj _) hO1 hs1 (fun d hd => by simp only [List.mem_singleton] at hd; subst hd; exact ⟨c0, c1⟩) (by omega) (by simp))
  have HA2 := Lib.hid (HA1.out.trans (M8.below ((Below.refl _ _).alloc (Nat.le_refl _) (.cells #[.int .i64 code] 3)) (by simp; omega)))
  have HO := Lib.hid (fun W => operand_any code W)
  have hl2 : l2 = l1 ++ (if operandB code = true then putI a else []) := by rw [h2, hl1]; unfold putOp putN; simp [List.append_assoc]
  clear hl1 h2 hV hs1 oO hO1
  cases hop : operandB code with
  | false =>
    rw [hop] at HO
    have HL2 := Lib.hid (show l2 = l1 by rw [hl2, hop]; simp)
    clear hl2 hop
    go_enter Try.func33, Try.ntmps33
    go_wp2_with (first
      | (go_at_call 32; (with_reducible refine HP.out.mono ?_); rintro e w1 ⟨ao1, cap1, rfl, hV1, hM1⟩; have o1 := hM1.ob _ _ _ (by decide) oO1; have k0 := o1.cell 0; have k1 := o1.cell 1; simp at k0 k1; have HV2 := Lib.hid hV1; have HM2 := Lib.hid (HA2.out.trans hM1); clear hV1 hM1)
      | (go_at_call 11; (with_reducible refine (HO.out _).mono ?_); rintro e w2 ⟨rfl, rfl⟩))
    go_ret
    exact ⟨ao1, cap1, by rw [HL2.out]; rfl, by rw [HL2.out]; exact HV2.out, HM2.out⟩
  | true =>
    rw [hop] at HO hl2
    rw [if_pos rfl] at hl2
    have hpi := putI_len ha
    have HI := Lib.hid (fun W => show Calls Try.prog 49 #[.int .i64 a] W fun e w' => e = .returned (.string (Cd.bs (putI a))) ∧ Below W.heap.size W w' from putIc_any a W ha.1 ha.2)
    generalize putI a = pi at *
    have HL2 := Lib.hid hl2
    have HKL := Lib.hid (show l1.length + (Cd.bs pi).size = l2.length by rw [hl2, List.length_append]; rfl)
    have hpz : (Cd.bs pi).size = pi.length := rfl
    have HK := Lib.hid (show l1.length + (Cd.bs pi).size ≤ 140737488355328 ∧ l1.length + (Cd.bs pi).size ≤ maxLen by unfold maxLen; omega)
    obtain ⟨i0, hi, hz0, hz1, hz2⟩ := info_parts info_u8c
    have HB := Lib.hid hB
    clear hl2 hop
    go_enter Try.func33, Try.ntmps33
    go_wp2_with (first
      | (go_at_call 32; (with_reducible refine HP.out.mono ?_); rintro e w1 ⟨ao1, cap1, rfl, hV1, hM1⟩; have o1 := hM1.ob _ _ _ (by decide) oO1; have k0 := o1.cell 0; have k1 := o1.cell 1; simp at k0 k1; have HV2 := Lib.hid hV1; have HM2 := Lib.hid (HA2.out.trans hM1); clear hV1 hM1)
      | (go_at_call 11; (with_reducible refine (HO.out _).mono ?_); rintro e w2 ⟨rfl, rfl⟩)
      | (go_at_call 49; (with_reducible refine (HI.out _).mono ?_); rintro e w3 ⟨rfl, hb3⟩; have hs3 := Nat.le_trans HB.out (Nat.le_trans HM2.out.be.size hb3.size); have HV3 := Lib.hid (HV2.out.below hb3); have HM3 := Lib.hid (HM2.out.trans (M8.below hb3 (Nat.le_trans HB.out HM2.out.be.size))))
      | (at_builtin; refine As.wpList _ rfl _ _ 60 9 rfl B 5 i0 Try.underlying60 Try.underlying9 hi hz0 hz1 hz2 _ l1.length _ rfl HV3.out (Cd.bs pi) rfl HK.out.2 HK.out.1 hs3 l2.length HKL.out ?_; intro ao4 cap4 w4 hown hgrow _; obtain ⟨hV4, hM4⟩ := HV3.out.app HL2.out hown hgrow hs3; have HV4 := Lib.hid hV4; have HM4 := Lib.hid (HM3.out.trans hM4); clear hown hgrow hV4 hM4))
    go_ret
    exact ⟨ao4, cap4, rfl, HV4.out, HM4.out⟩

set_option maxRecDepth 100000 in
set_option maxHeartbeats 8000000 in
theorem putOpts_any (B : Nat) (v : Value) (l l2 : Dat) (o : Opt) (w : World) (h2 : l2 = l ++ putOpt o) (hV : Byt B w v l) (hB : B ≤ w.heap.size) (ho : OptOk o) (hl : l.length ≤ 900000) :
    Calls Try.prog 34 #[v, optV o] w (PutOut B w l2) := by
  obtain ⟨qu, st, cl, tt, be, fi, nu, de, mo, tr, ne⟩ := o
  obtain ⟨he, hn⟩ := ho
  unfold putOpt at h2
  unfold nums at he h2
  simp only [List.mem_cons, List.not_mem_nil, or_false, forall_eq_or_imp, forall_eq] at he
  simp only at hn h2
  obtain ⟨z0, z1, z2, z3, z4, z5, z6, z7, z8, z9⟩ := he
  unfold optV
  simp only
  obtain ⟨ao, cap, rfl, _⟩ := Sq.row_cases hV
  obtain ⟨l1, hl1⟩ : ∃ l1, l1 = l ++ [qu].flatMap putN := ⟨_, rfl⟩
  obtain ⟨m1, hm1⟩ : ∃ m1, m1 = l1 ++ [st, cl, tt, be, fi, nu, de, mo].flatMap putN := ⟨_, rfl⟩
  obtain ⟨n1, hn1⟩ : ∃ n1, n1 = m1 ++ [tr].flatMap putN := ⟨_, rfl⟩
  have h3 : l2 = n1 ++ putI ne := by
    rw [h2, hn1, hm1, hl1]
    simp only [List.flatMap_cons, List.flatMap_nil, List.append_assoc, List.append_nil, List.nil_append]
  have y1 : l1.length ≤ 900010 := by
    have := putN_len z0
    rw [hl1]; simp only [List.flatMap_cons, List.flatMap_nil, List.append_nil, List.length_append]; omega
  have hin8 : ∀ d ∈ [st, cl, tt, be, fi, nu, de, mo], 0 ≤ d ∧ d ≤ 1099511627776 := by
    simp only [List.mem_cons, List.not_mem_nil, or_false, forall_eq_or_imp, forall_eq]
    exact ⟨z1, z2, z3, z4, z5, z6, z7, z8⟩
  have y2 : m1.length ≤ 900090 := by
    have := flat_len putN 10 [st, cl, tt, be, fi, nu, de, mo] (fun d hd => putN_len (hin8 d hd))
    rw [hm1, List.length_append]
    simp only [List.length_cons, List.length_nil] at this
    omega
  have y3 : n1.length ≤ 900100 := by
    have := putN_len z9
    rw [hn1]; simp only [List.flatMap_cons, List.flatMap_nil, List.append_nil, List.length_append]; omega
  have hM0 := M8.below ((Below.refl w.heap.size w).alloc (Nat.le_refl _) (.cells #[.int .i64 qu, .int .i64 st, .int .i64 cl, .int .i64 tt, .int .i64 be, .int .i64 fi, .int .i64 nu, .int .i64 de, .int .i64 mo, .int .i64 tr, .int .i64 ne] 54)) hB
  have oO := Ob.Obj.new w 54 [.int .i64 qu, .int .i64 st, .int .i64 cl, .int .i64 tt, .int .i64 be, .int .i64 fi, .int .i64 nu, .int .i64 de, .int .i64 mo, .int .i64 tr, .int .i64 ne]
  have hV0 := hV.obj (.cells #[.int .i64 qu, .int .i64 st, .int .i64 cl, .int .i64 tt, .int .i64 be, .int .i64 fi, .int .i64 nu, .int .i64 de, .int .i64 mo, .int .i64 tr, .int .i64 ne] 54)
  obtain ⟨w0, hw0⟩ : ∃ w0, w0 = w.alloc (.cells #[.int .i64 qu, .int .i64 st, .int .i64 cl, .int .i64 tt, .int .i64 be, .int .i64 fi, .int .i64 nu, .int .i64 de, .int .i64 mo, .int .i64 tr, .int .i64 ne] 54) := ⟨_, rfl⟩
  rw [← hw0] at hM0 oO hV0
  have hB0 : B ≤ w0.heap.size := Nat.le_trans hB hM0.be.size
  have HP1 := Lib.hid (fun W (hV : Byt B W (.slice ao l.length cap) l) (hB : B ≤ W.heap.size) => putI_at B W.heap.size (.slice ao l.length cap) l l1 [qu] 1 (W.alloc (.cells #[.int .i64 qu] 3)) hl1 rfl (hV.obj _) (Ob.Obj.new W _ _) (by simp; omega) (fun d hd => by simp only [List.mem_singleton] at hd; subst hd; exact z0) (by omega) (by simp))
  have HP2 := Lib.hid (fun W ao cap (hV : Byt B W (.slice ao l1.length cap) l1) (hB : B ≤ W.heap.size) => putL_at B W.heap.size (.slice ao l1.length cap) l1 m1 [st, cl, tt, be, fi, nu, de, mo] 8 (W.alloc (.cells #[.int .i64 st, .int .i64 cl, .int .i64 tt, .int .i64 be, .int .i64 fi, .int .i64 nu, .int .i64 de, .int .i64 mo] 2)) hm1 rfl (hV.obj _) (Ob.Obj.new W _ _) (by simp; omega) hin8 (by omega) (by simp))
  have HP3 := Lib.hid (fun W ao cap (hV : Byt B W (.slice ao m1.length cap) m1) (hB : B ≤ W.heap.size) => putI_at B W.heap.size (.slice ao m1.length cap) m1 n1 [tr] 1 (W.alloc (.cells #[.int .i64 tr] 3)) hn1 rfl (hV.obj _) (Ob.Obj.new W _ _) (by simp; omega) (fun d hd => by simp only [List.mem_singleton] at hd; subst hd; exact z9) (by omega) (by simp))
  have hpi := putI_len hn
  have HI := Lib.hid (fun W => show Calls Try.prog 49 #[.int .i64 ne] W fun e w' => e = .returned (.string (Cd.bs (putI ne))) ∧ Below W.heap.size W w' from putIc_any ne W hn.1 hn.2)
  clear hm1 hn1 hl1 h2 z0 z1 z2 z3 z4 z5 z6 z7 z8 z9 hin8 hV
  generalize putI ne = pi at *
  have HL2 := Lib.hid h3
  have HKL := Lib.hid (show n1.length + (Cd.bs pi).size = l2.length by rw [h3, List.length_append]; rfl)
  have hpz : (Cd.bs pi).size = pi.length := rfl
  have HK := Lib.hid (show n1.length + (Cd.bs pi).size ≤ 140737488355328 ∧ n1.length + (Cd.bs pi).size ≤ maxLen by unfold maxLen; omega)
  obtain ⟨i0, hi, hz0, hz1, hz2⟩ := info_parts info_u8c
  have HB0 := Lib.hid hB0
  have HV0 := Lib.hid hV0
  have HM0 := Lib.hid hM0
  have OO := Lib.hid oO
  have HW0 := Lib.hid hw0
  have AL := Lib.hid (fun W (o : Obj) (hB : B ≤ W.heap.size) => M8.below ((Below.refl W.heap.size W).alloc (Nat.le_refl _) o) hB)
  have oOx : Ob.Obj (w.alloc (.cells #[.int .i64 qu, .int .i64 st, .int .i64 cl, .int .i64 tt, .int .i64 be, .int .i64 fi, .int .i64 nu, .int .i64 de, .int .i64 mo, .int .i64 tr, .int .i64 ne] 54)) w.heap.size 54 [.int .i64 qu, .int .i64 st, .int .i64 cl, .int .i64 tt, .int .i64 be, .int .i64 fi, .int .i64 nu, .int .i64 de, .int .i64 mo, .int .i64 tr, .int .i64 ne] := by rw [← hw0]; exact oO
  clear h3 hV0 hM0 hB0 oO
  subst hw0
  have HP1 := Lib.hid (HP1.out _ HV0.out HB0.out)
  rw [show ∀ c : Obj, (w.alloc c).heap.size = w.heap.size + 1 from fun c => by simp] at HP1
  go_enter Try.func34, Try.ntmps34
  go_wp2_with (first
    | (go_at_call 32; (with_reducible refine HP1.out.mono ?_); rintro e w1 ⟨ao1, cap1, rfl, hV1, hM1⟩; have HM1 := Lib.hid ((AL.out _ (.cells #[.int .i64 qu] 3) HB0.out).trans hM1); have o1 := HM1.out.ob _ _ _ (by decide) oOx; have k1 := o1.cell 1; have k2 := o1.cell 2; have k3 := o1.cell 3; have k4 := o1.cell 4; have k5 := o1.cell 5; have k6 := o1.cell 6; have k7 := o1.cell 7; have k8 := o1.cell 8; have k9 := o1.cell 9; have k10 := o1.cell 10; simp at k1 k2 k3 k4 k5 k6 k7 k8 k9 k10; have HV1 := Lib.hid hV1; have hs1 := Nat.le_trans HB0.out HM1.out.be.size; clear hV1 hM1)
    | (go_at_call 50; (with_reducible refine (HP2.out _ _ _ HV1.out hs1).mono ?_); rintro e w2 ⟨ao2, cap2, rfl, hV2, hM2⟩; have HM2 := Lib.hid ((AL.out _ (.cells #[.int .i64 st, .int .i64 cl, .int .i64 tt, .int .i64 be, .int .i64 fi, .int .i64 nu, .int .i64 de, .int .i64 mo] 2) hs1).trans hM2); have o2 := HM2.out.ob _ _ _ (by decide) o1; have j9 := o2.cell 9; have j10 := o2.cell 10; simp at j9 j10; have HV2 := Lib.hid hV2; have hs2 := Nat.le_trans hs1 HM2.out.be.size; clear hV2 hM2)
    | (go_at_call 32; (with_reducible refine (HP3.out _ _ _ HV2.out hs2).mono ?_); rintro e w3 ⟨ao3, cap3, rfl, hV3, hM3⟩; have HM3 := Lib.hid ((AL.out _ (.cells #[.int .i64 tr] 3) hs2).trans hM3); have o3 := HM3.out.ob _ _ _ (by decide) o2; have i10 := o3.cell 10; simp at i10; have HV3 := Lib.hid hV3; have hs3 := Nat.le_trans hs2 HM3.out.be.size; clear hV3 hM3)
    | (go_at_call 49; (with_reducible refine (HI.out _).mono ?_); rintro e w4 ⟨rfl, hb4⟩; have hs4 := Nat.le_trans hs3 hb4.size; have HV4 := Lib.hid (HV3.out.below hb4); have HM4 := Lib.hid (M8.below hb4 hs3))
    | (at_builtin; refine As.wpList _ rfl _ _ 60 9 rfl B 5 i0 Try.underlying60 Try.underlying9 hi hz0 hz1 hz2 _ n1.length _ rfl HV4.out (Cd.bs pi) rfl HK.out.2 HK.out.1 hs4 l2.length HKL.out ?_; intro ao5 cap5 w5 hown hgrow _; obtain ⟨hV5, hM5⟩ := HV4.out.app HL2.out hown hgrow hs4; have HV5 := Lib.hid hV5; have HM5 := Lib.hid hM5; clear hown hgrow hV5 hM5))
  go_ret
  exact ⟨ao5, cap5, rfl, HV5.out, HM0.out.trans (HM1.out.trans (HM2.out.trans (HM3.out.trans (HM4.out.trans HM5.out))))⟩
end Co
end Go.Proofs.Ytfkfckohajpcfaa

/-
  The program's code.Encode: P13.4 whole.
-/
namespace Go.Proofs.Ytfkfckohajpcfaa
open Go.RowKit
set_option linter.unusedSimpArgs false
set_option linter.unusedVariables false
namespace Co
theorem headF_nums {f : Fn} : headF f = [f.kind, f.name, (f.ops.length : Int)].flatMap putN := by
  unfold headF putN
  simp [List.append_assoc]

set_option maxRecDepth 100000 in
set_option maxHeartbeats 16000000 in
theorem encode_any (fv ov : Value) (p : Prog) (w : World) (hP : Pr w.heap.size w fv ov p) (hI : ProgIn p) :
    Calls Try.prog 21 #[.agg #[fv, ov]] w fun r w' => r = .returned (.tuple #[.string (Cd.bs (encP p).1), .int .i64 ((encP p).2 : Nat)]) ∧ Below w.heap.size w w' := by
  have HCK := Lib.hid (fun W (hb : Below w.heap.size w W) => check_any fv ov p W ((hP.below hb).wider hb.size) hI)
  obtain ⟨⟨fa, fc, fb, fo, rfl, ha, hcells⟩, ⟨oa, oc, ob, oo, rfl, hoa, hob⟩⟩ := hP
  have hA : Below w.heap.size w (w.alloc (.cells #[.slice fa p.funcs.length fc, .slice oa p.opts.length oc] 27)) := (Below.refl _ _).alloc (Nat.le_refl _) _
  have oP := Ob.Obj.new w 27 [.slice fa p.funcs.length fc, .slice oa p.opts.length oc]
  rcases check_cases p with hbad | hgood
  · obtain ⟨x, y, hxy⟩ : ∃ x y, check p = (40, x, y) := by
      generalize check p = r at *
      obtain ⟨a, b, c⟩ := r
      change a = 40 at hbad
      subst hbad
      exact ⟨_, _, rfl⟩
    have HE := Lib.hid (show encP p = ([], 40) by unfold encP; rw [hxy]; rfl)
    rw [hxy] at HCK
    unfold chkV at HCK
    clear hbad hxy hcells hob
    go_enter Try.func21, Try.ntmps21
    go_wp2_with (go_at_call 16; (with_reducible refine (HCK.out _ hA).mono ?_); rintro e w1 ⟨rfl, hb1⟩)
    go_ret2
    exact ⟨by rw [HE.out]; rfl, hA.trans (hb1.mono hA.size)⟩
  · have HE := Lib.hid (show encP p = (loadP p, 0) by unfold encP; rw [hgood]; rfl)
    have hok := check_pok hI (by rw [hgood])
    have HOK := Lib.hid hok
    have hnf := hok.nf
    have hno := hok.no
    have hLL := loadP_len hok
    rw [hgood] at HCK
    unfold chkV at HCK
    have HCE := Lib.hid (fun W (hb : Below w.heap.size w W) q (hq : q < p.funcs.length) => (show (fa = some ⟨fb, fo, none⟩ ∧ fb < w.heap.size) ∧ W.cell? ⟨fb, fo + q * 3, none⟩ = some (.int .i64 p.funcs[q].kind) ∧ W.cell? ⟨fb, fo + q * 3 + 1, none⟩ = some (.int .i64 p.funcs[q].name) ∧ ∃ (pa : Option Addr) (pc pb po : Nat), W.cell? ⟨fb, fo + q * 3 + 2, none⟩ = some (.slice pa p.funcs[q].ops.length pc) ∧ (0 < p.funcs[q].ops.length → pa = some ⟨pb, po, none⟩ ∧ pb < w.heap.size) ∧ ∀ W2, Below w.heap.size w W2 → ∀ j (hj : j < p.funcs[q].ops.length), W2.cell? ⟨pb, po + j * 2, none⟩ = some (.int .i64 p.funcs[q].ops[j].code) ∧ W2.cell? ⟨pb, po + j * 2 + 1, none⟩ = some (.int .i64 p.funcs[q].ops[j].a) from by
      obtain ⟨d0, d1, u, d2, pa, pc, pb, po, rfl, hu1, hu2⟩ := hcells q hq
      obtain ⟨g1, g2⟩ := ha (by omega)
      refine ⟨⟨g1, g2⟩, (hb.cell (p := ⟨fb, fo + q * 3, none⟩) g2).trans d0, (hb.cell (p := ⟨fb, fo + q * 3 + 1, none⟩) g2).trans d1, pa, pc, pb, po, (hb.cell (p := ⟨fb, fo + q * 3 + 2, none⟩) g2).trans d2, hu1, fun W2 hb2 j hj => ?_⟩
      have g3 := (hu1 (by omega)).2
      exact ⟨(hb2.cell (p := ⟨pb, po + j * 2, none⟩) g3).trans (hu2 j hj).1, (hb2.cell (p := ⟨pb, po + j * 2 + 1, none⟩) g3).trans (hu2 j hj).2⟩))
    have HCO := Lib.hid (fun W (hb : Below w.heap.size w W) q (hq : q < p.opts.length) m (hm : m < 11) => (hb.cell (p := ⟨ob, oo + q * 11 + m, none⟩) (hoa (by omega)).2).trans (hob q hq m hm))
    have HOA := Lib.hid hoa
    obtain ⟨S0, hS0⟩ : ∃ S0, S0 = ([] : Dat) ++ [(p.funcs.length : Int)].flatMap putN := ⟨_, rfl⟩
    obtain ⟨S1, hS1⟩ : ∃ S1, S1 = S0 ++ p.funcs.flatMap putFn := ⟨_, rfl⟩
    obtain ⟨S2, hS2⟩ : ∃ S2, S2 = S1 ++ [(p.opts.length : Int)].flatMap putN := ⟨_, rfl⟩
    have hS3 : loadP p = S2 ++ p.opts.flatMap putOpt := by
      rw [hS2, hS1, hS0]; unfold loadP putN; simp [List.append_assoc]
    have y0 : S0.length ≤ 10 := by
      have := putN_len (d := (p.funcs.length : Int)) ⟨by omega, by omega⟩
      rw [hS0]; simp only [List.flatMap_cons, List.flatMap_nil, List.append_nil, List.nil_append]; exact this
    have y1 : S1.length ≤ 41450 := by rw [hS1, List.length_append]; have := fns_len hok.fns hok.nf; omega
    have y2 : S2.length ≤ 41460 := by
      have := putN_len (d := (p.opts.length : Int)) ⟨by omega, by omega⟩
      rw [hS2]; simp only [List.flatMap_cons, List.flatMap_nil, List.append_nil, List.length_append]; omega
    have HP0 := Lib.hid (fun W (hB : w.heap.size ≤ W.heap.size) => putI_at w.heap.size W.heap.size (.slice none 0 0) [] S0 [(p.funcs.length : Int)] 1 (W.alloc (.cells #[.int .i64 (p.funcs.length : Int)] 3)) hS0 rfl (Byt.nil _ _) (Ob.Obj.new W _ _) (by simp; omega) (fun d hd => by simp only [List.mem_singleton] at hd; subst hd; omega) (by simp) (by simp))
    have HP2 := Lib.hid (fun W ao cap (hV : Byt w.heap.size W (.slice ao S1.length cap) S1) (hB : w.heap.size ≤ W.heap.size) => putI_at w.heap.size W.heap.size (.slice ao S1.length cap) S1 S2 [(p.opts.length : Int)] 1 (W.alloc (.cells #[.int .i64 (p.opts.length : Int)] 3)) hS2 rfl (hV.obj _) (Ob.Obj.new W _ _) (by simp; omega) (fun d hd => by simp only [List.mem_singleton] at hd; subst hd; omega) (by omega) (by simp))
    have AL := Lib.hid (fun W (o : Obj) (hB : w.heap.size ≤ W.heap.size) => M8.below ((Below.refl W.heap.size W).alloc (Nat.le_refl _) o) hB)
    have HS1 := Lib.hid hS1
    have HS3 := Lib.hid hS3
    clear hS0 hS1 hS2 hS3 hcells hob ha hoa hok hgood
    go_enter Try.func21, Try.ntmps21
    go_wp2_with (first
      | (go_at_call 16; (with_reducible refine (HCK.out _ hA).mono ?_); rintro e w1 ⟨rfl, hb1⟩; have hB1 := hA.trans (hb1.mono hA.size); have oP1 := oP.below hb1; have k0 := oP1.cell 0; have k1 := oP1.cell 1; simp at k0 k1; have hs1 := hB1.size)
      | (go_at_call 32; (with_reducible refine (HP0.out _ hs1).mono ?_); rintro e w2 ⟨ao2, cap2, rfl, hV2, hM2⟩; have hM2' := (AL.out _ (.cells #[.int .i64 (p.funcs.length : Int)] 3) hs1).trans hM2; have HB2 := Lib.hid (hB1.trans hM2'.be); have oP2 := hM2'.ob _ _ _ (by decide) oP1; have j0 := oP2.cell 0; have j1 := oP2.cell 1; simp at j0 j1))
    clear oP oP1 hM2' hM2 k0 k1 hs1
    go_loopw [7, 31] (fun b i wr => ∃ (q : Nat) (l : Dat) (ao : Option Addr) (cap : Nat), q ≤ p.funcs.length ∧ i = .int .i64 (q : Int) ∧ b = .slice ao l.length cap ∧ Hid (l = S0 ++ (p.funcs.take q).flatMap putFn) ∧ Byt w.heap.size wr (.slice ao l.length cap) l ∧ Below w.heap.size w wr ∧ Ob.Obj wr w.heap.size 27 [.slice fa p.funcs.length fc, .slice oa p.opts.length oc]) (fun _ i _ => p.funcs.length - (intOf i).toNat)
    case atStart => exact ⟨0, S0, ao2, cap2, Nat.zero_le _, rfl, rfl, by show S0 = S0 ++ _; simp, hV2, HB2.out, oP2⟩
    case round =>
      clear hV2 oP2 j0 j1 HB2
      obtain ⟨q, l, ao, cap, hq, rfl, rfl, hl, hV, hB, oP⟩ := hrel
      obtain ⟨wo, rfl⟩ : ∃ wo : World, wo = wr := ⟨_, rfl⟩
      have hbs := hB.size
      by_cases hlt : q < p.funcs.length
      · obtain ⟨⟨rfl, hfb⟩, c0, c1, pa, pc, pb, po, c2, hpa, hop⟩ := HCE.out wo hB q hlt
        have hi1 : (0 : Int) ≤ (q : Int) ∧ (q : Int) < (p.funcs.length : Int) := by omega
        have hfo := HOK.out.fns p.funcs[q] (List.getElem_mem hlt)
        have hsl : l.length ≤ 41450 := by
          rw [hl.out, List.length_append]
          have := fns_len (L := p.funcs.take q) (fun f hf => HOK.out.fns f (List.mem_of_mem_take hf)) (by simp; omega)
          omega
        have HNX := Lib.hid (show S0 ++ (p.funcs.take (q + 1)).flatMap putFn = (l ++ headF p.funcs[q]) ++ p.funcs[q].ops.flatMap putOp by rw [flat_snoc putFn hlt, hl.out]; unfold putFn; simp only [List.append_assoc])
        have hwb : fb < wo.heap.size := by omega
        clear hl HCE
        generalize p.funcs[q] = f at *
        obtain ⟨kind, name, ops⟩ := f
        obtain ⟨z0, z1, z2, z3, z4, z5⟩ := hfo
        simp only at c0 c1 c2 hpa hop z0 z1 z2 z3 z4 z5
        have HOPS := Lib.hid hop
        clear hop
        obtain ⟨l1, hl1⟩ : ∃ l1, l1 = l ++ [kind, name, (ops.length : Int)].flatMap putN := ⟨_, rfl⟩
        have hl1' : l1 = l ++ headF ⟨kind, name, ops⟩ := by rw [hl1, headF_nums]
        rw [← hl1'] at HNX
        have y3 : l1.length ≤ 41480 := by
          have := headF_len (f := ⟨kind, name, ops⟩) ⟨z0, z1, z2, z3, z4, z5⟩
          rw [hl1', List.length_append]; omega
        obtain ⟨wf, hwf⟩ : ∃ wf, wf = wo.alloc (.cells #[.int .i64 kind, .int .i64 name, .slice pa ops.length pc] 52) := ⟨_, rfl⟩
        have hsz : (wo.alloc (.cells #[.int .i64 kind, .int .i64 name, .slice pa ops.length pc] 52)).heap.size = wo.heap.size + 1 := by simp
        have hM3 : M8 w.heap.size wo wf := by rw [hwf]; exact AL.out _ _ hbs
        have oP3 := hM3.ob _ _ _ (by decide) oP
        have oF3 : Ob.Obj wf wo.heap.size 52 [.int .i64 kind, .int .i64 name, .slice pa ops.length pc] := by rw [hwf]; exact Ob.Obj.new wo _ _
        have hV3 : Byt w.heap.size wf (.slice ao l.length cap) l := by rw [hwf]; exact hV.obj _
        have hs3 : w.heap.size ≤ wf.heap.size := Nat.le_trans hbs hM3.be.size
        have HP3 := Lib.hid (putI_at w.heap.size wf.heap.size (.slice ao l.length cap) l l1 [kind, name, (ops.length : Int)] 3 (wf.alloc (.cells #[.int .i64 kind, .int .i64 name, .int .i64 (ops.length : Int)] 3)) hl1 rfl (hV3.obj _) (Ob.Obj.new wf _ _) (by simp; omega) (fun d hd => by simp only [List.mem_cons, List.not_mem_nil, or_false] at hd; rcases hd with rfl | rfl | rfl <;> omega) (by omega) (by simp))
        have hB3 := Lib.hid (hB.trans (hM3.be.trans (AL.out wf (.cells #[.int .i64 kind, .int .i64 name, .int .i64 (ops.length : Int)] 3) hs3).be))
        have oP4 := oP3.alloc (.cells #[.int .i64 kind, .int .i64 name, .int .i64 (ops.length : Int)] 3)
        have oF4 := oF3.alloc (.cells #[.int .i64 kind, .int .i64 name, .int .i64 (ops.length : Int)] 3)
        rw [hwf, hsz] at HP3
        rw [hwf] at hB3 oP4 oF4
        clear hl1 hl1' hM3 oP3 oF3 hV3 hs3 hsz hwf
        go_wp2_with (go_at_call 32; (with_reducible refine HP3.out.mono ?_); rintro e w5 ⟨ao5, cap5, rfl, hV5, hM5⟩; have HB5 := Lib.hid (hB3.out.trans hM5.be); have oP5 := hM5.ob _ _ _ (by decide) oP4; have oF5 := hM5.ob _ _ _ (by decide) oF4; have j2 := oF5.cell 2; simp at j2)
        clear HP3 hM5 oP4 oF4 hB3
        go_loopw [7, 48] (fun b i wr => ∃ (k : Nat) (l : Dat) (ao : Option Addr) (cap : Nat), k ≤ ops.length ∧ i = .int .i64 (k : Int) ∧ b = .slice ao l.length cap ∧ Hid (l = l1 ++ (ops.take k).flatMap putOp) ∧ Byt w.heap.size wr (.slice ao l.length cap) l ∧ Below w.heap.size w wr ∧ Ob.Obj wr w.heap.size 27 [.slice (some ⟨fb, fo, none⟩) p.funcs.length fc, .slice oa p.opts.length oc]) (fun _ i _ => ops.length - (intOf i).toNat)
        case atStart => exact ⟨0, l1, ao5, cap5, Nat.zero_le _, rfl, rfl, by show l1 = l1 ++ _; simp, hV5, HB5.out, oP5⟩
        case round =>
          clear hV5 oP5 oF5 HB5 j2
          obtain ⟨k, l2, ao, cap, hk, rfl, rfl, hl2, hV, hB, oP⟩ := hrel
          obtain ⟨wq, rfl⟩ : ∃ wq : World, wq = wr := ⟨_, rfl⟩
          have hbs := hB.size
          by_cases hklt : k < ops.length
          · obtain ⟨rfl, hpb⟩ := hpa (by omega)
            obtain ⟨d0, d1⟩ := HOPS.out wq hB k hklt
            have hk1 : (0 : Int) ≤ (k : Int) ∧ (k : Int) < (ops.length : Int) := by omega
            have hwb2 : pb < wq.heap.size := by omega
            have ho := z5 ops[k] (List.getElem_mem hklt)
            have hsl2 : l2.length ≤ 50000 := by
              rw [hl2.out, List.length_append]
              have := ops_len (L := ops.take k) (fun f hf => z5 f (List.mem_of_mem_take hf)) (by simp; omega)
              omega
            have HNO := Lib.hid (show l1 ++ (ops.take (k + 1)).flatMap putOp = l2 ++ putOp ops[k] by rw [flat_snoc putOp hklt, hl2.out]; simp only [List.append_assoc])
            clear hl2
            generalize ops[k] = o at *
            obtain ⟨code, a⟩ := o
            simp only at d0 d1
            obtain ⟨l3, hl3⟩ : ∃ l3, l3 = l2 ++ putOp ⟨code, a⟩ := ⟨_, rfl⟩
            rw [← hl3] at HNO
            have HPO := Lib.hid (putOp_any w.heap.size (.slice ao l2.length cap) l2 l3 ⟨code, a⟩ (wq.alloc (.cells #[.int .i64 code, .int .i64 a] 59)) hl3 (hV.obj _) (by simp; omega) ho (by omega))
            simp only at HPO
            have hM6 := AL.out wq (.cells #[.int .i64 code, .int .i64 a] 59) hbs
            have hB6 := Lib.hid (hB.trans hM6.be)
            have oP6 := hM6.ob _ _ _ (by decide) oP
            clear hM6 hl3
            go_wp2_with (go_at_call 33; (with_reducible refine HPO.out.mono ?_); rintro e w7 ⟨ao7, cap7, rfl, hV7, hM7⟩; have HB7 := Lib.hid (hB6.out.trans hM7.be); have oP7 := hM7.ob _ _ _ (by decide) oP6)
            go_roundw
            case rel => exact ⟨k + 1, l3, ao7, cap7, by omega, by go_num, rfl, HNO.out.symm, hV7, HB7.out, oP7⟩
            case measure => simp [intOf]; omega
          · obtain rfl : k = ops.length := by omega
            have HFIN := Lib.hid (show l2 = S0 ++ (p.funcs.take (q + 1)).flatMap putFn by rw [HNX.out, hl2.out, List.take_length])
            go_wp2_with fail
            go_roundw
            case rel => exact ⟨q + 1, l2, ao, cap, by omega, by go_num, rfl, HFIN.out, hV, hB, oP⟩
            case measure => simp [intOf]; omega
      · obtain rfl : q = p.funcs.length := by omega
        obtain rfl : l = S1 := by rw [hl.out, List.take_length, HS1.out]
        have p0 := oP.cell 0
        have p1 := oP.cell 1
        simp at p0 p1
        clear hl
        go_wp2_with (go_at_call 32; (with_reducible refine (HP2.out _ _ _ hV hbs).mono ?_); rintro e w2 ⟨ao2, cap2, rfl, hV2, hM2⟩; have hM2' := (AL.out _ (.cells #[.int .i64 (p.opts.length : Int)] 3) hbs).trans hM2; have HB2 := Lib.hid (hB.trans hM2'.be); have oP2 := hM2'.ob _ _ _ (by decide) oP; have j0 := oP2.cell 0; have j1 := oP2.cell 1; simp at j0 j1)
        clear hM2 hM2' p0 p1 oP hV hB
        go_loopw [7, 66] (fun b i wr => ∃ (q : Nat) (l : Dat) (ao : Option Addr) (cap : Nat), q ≤ p.opts.length ∧ i = .int .i64 (q : Int) ∧ b = .slice ao l.length cap ∧ Hid (l = S2 ++ (p.opts.take q).flatMap putOpt) ∧ Byt w.heap.size wr (.slice ao l.length cap) l ∧ Below w.heap.size w wr) (fun _ i _ => p.opts.length - (intOf i).toNat)
        case atStart => exact ⟨0, S2, ao2, cap2, Nat.zero_le _, rfl, rfl, by show S2 = S2 ++ _; simp, hV2, HB2.out⟩
        case round =>
          clear hV2 oP2 j0 j1 HB2
          obtain ⟨q, l, ao, cap, hq, rfl, rfl, hl, hV, hB⟩ := hrel
          obtain ⟨wq, rfl⟩ : ∃ wq : World, wq = wr := ⟨_, rfl⟩
          have hbs := hB.size
          by_cases hlt : q < p.opts.length
          · obtain ⟨rfl, hob⟩ := HOA.out (by omega)
            have c0 := HCO.out wq hB q hlt 0 (by decide)
            have c1 := HCO.out wq hB q hlt 1 (by decide)
            have c2 := HCO.out wq hB q hlt 2 (by decide)
            have c3 := HCO.out wq hB q hlt 3 (by decide)
            have c4 := HCO.out wq hB q hlt 4 (by decide)
            have c5 := HCO.out wq hB q hlt 5 (by decide)
            have c6 := HCO.out wq hB q hlt 6 (by decide)
            have c7 := HCO.out wq hB q hlt 7 (by decide)
            have c8 := HCO.out wq hB q hlt 8 (by decide)
            have c9 := HCO.out wq hB q hlt 9 (by decide)
            have c10 := HCO.out wq hB q hlt 10 (by decide)
            have hi1 : (0 : Int) ≤ (q : Int) ∧ (q : Int) < (p.opts.length : Int) := by omega
            have hwb : ob < wq.heap.size := by omega
            have ho := HOK.out.opts p.opts[q] (List.getElem_mem hlt)
            have hsl2 : l.length ≤ 50000 := by
              rw [hl.out, List.length_append]
              have := opts_len (L := p.opts.take q) (fun f hf => HOK.out.opts f (List.mem_of_mem_take hf)) (by simp; omega)
              omega
            have HNO := Lib.hid (show S2 ++ (p.opts.take (q + 1)).flatMap putOpt = l ++ putOpt p.opts[q] by rw [flat_snoc putOpt hlt, hl.out]; simp only [List.append_assoc])
            clear hl
            generalize p.opts[q] = o at *
            obtain ⟨l3, hl3⟩ : ∃ l3, l3 = l ++ putOpt o := ⟨_, rfl⟩
            rw [← hl3] at HNO
            have HPO := Lib.hid (putOpts_any w.heap.size (.slice ao l.length cap) l l3 o (wq.alloc (.cells (optC o).toArray 54)) hl3 (hV.obj _) (by simp; omega) ho (by omega))
            have hM6 := AL.out wq (.cells (optC o).toArray 54) hbs
            have hB6 := Lib.hid (hB.trans hM6.be)
            unfold optV optC at HPO
            unfold optC at c0 c1 c2 c3 c4 c5 c6 c7 c8 c9 c10 hB6
            simp only [List.getElem?_cons_zero, List.getElem?_cons_succ, Nat.add_zero] at c0 c1 c2 c3 c4 c5 c6 c7 c8 c9 c10
            clear hM6 hl3
            go_wp2_with (go_at_call 34; (with_reducible refine HPO.out.mono ?_); rintro e w7 ⟨ao7, cap7, rfl, hV7, hM7⟩; have HB7 := Lib.hid (hB6.out.trans hM7.be))
            go_roundw
            case rel => exact ⟨q + 1, l3, ao7, cap7, by omega, by go_num, rfl, HNO.out.symm, hV7, HB7.out⟩
            case measure => simp [intOf]; omega
          · obtain rfl : q = p.opts.length := by omega
            have HFIN := Lib.hid (show loadP p = l by rw [HS3.out, hl.out, List.take_length])
            have hcv := conv_any hV
            clear hl
            go_wp2_with fail
            go_ret2
            exact ⟨by rw [HE.out, HFIN.out]; rfl, hB⟩
end Co
end Go.Proofs.Ytfkfckohajpcfaa

/-
  The document's comparison of programs (tapestryref13.Same): of two that say the same.
-/
namespace Go.Proofs.Ytfkfckohajpcfaa
open Go.RowKit
set_option linter.unusedSimpArgs false
set_option linter.unusedVariables false
namespace Co

set_option maxRecDepth 100000 in
set_option maxHeartbeats 16000000 in
theorem sameR_any (fv ov fv2 ov2 : Value) (p : Prog) (w : World) (hP : Pr w.heap.size w fv ov p) (hP2 : Pr w.heap.size w fv2 ov2 p) (hI : ProgIn p) :
    Calls Try.prog 18 #[.agg #[fv, ov], .agg #[fv2, ov2]] w fun e w' => e = .returned (.bool true) ∧ Below w.heap.size w w' := by
  obtain ⟨⟨fa, fc, fb, fo, rfl, ha, hcells⟩, ⟨oa, oc, ob, oo, rfl, hoa, hob⟩⟩ := hP
  obtain ⟨⟨fa2, fc2, fb2, fo2, rfl, ha2, hcells2⟩, ⟨oa2, oc2, ob2, oo2, rfl, hoa2, hob2⟩⟩ := hP2
  have hL := hI.nf
  have hLO := hI.no
  have HLN := Lib.hid (fun q (hq : q < p.funcs.length) => (hI.fns p.funcs[q] (List.getElem_mem hq)).2.2.1)
  have HB := Lib.hid (fun W (hb : Below w.heap.size w W) q (hq : q < p.opts.length) m (hm : m < 11) => (hb.cell (p := ⟨ob, oo + q * 11 + m, none⟩) (hoa (by omega)).2).trans (hob q hq m hm))
  have HB2 := Lib.hid (fun W (hb : Below w.heap.size w W) q (hq : q < p.opts.length) m (hm : m < 11) => (hb.cell (p := ⟨ob2, oo2 + q * 11 + m, none⟩) (hoa2 (by omega)).2).trans (hob2 q hq m hm))
  have HC := Lib.hid hcells
  have HC2 := Lib.hid hcells2
  have HA := Lib.hid ha
  have HA2 := Lib.hid ha2
  have HOA := Lib.hid hoa
  have HOA2 := Lib.hid hoa2
  clear hcells hob hI ha hcells2 hob2 ha2 hoa hoa2
  have hA : Below w.heap.size w ((w.alloc (.cells #[.slice fa p.funcs.length fc, .slice oa p.opts.length oc] 27)).alloc (.cells #[.slice fa2 p.funcs.length fc2, .slice oa2 p.opts.length oc2] 27)) := ((Below.refl _ _).alloc (Nat.le_refl _) _).alloc (by simp) _
  have oP := (Ob.Obj.new w 27 [.slice fa p.funcs.length fc, .slice oa p.opts.length oc]).alloc (.cells #[.slice fa2 p.funcs.length fc2, .slice oa2 p.opts.length oc2] 27)
  have oQ := Ob.Obj.new (w.alloc (.cells #[.slice fa p.funcs.length fc, .slice oa p.opts.length oc] 27)) 27 [.slice fa2 p.funcs.length fc2, .slice oa2 p.opts.length oc2]
  rw [show (w.alloc (.cells #[.slice fa p.funcs.length fc, .slice oa p.opts.length oc] 27)).heap.size = w.heap.size + 1 by simp] at oQ
  go_enter Try.func18, Try.ntmps18
  go_wp2_with fail
  go_loopw [5] (fun i wr => ∃ q : Nat, q ≤ p.opts.length ∧ i = .int .i64 (q : Int) ∧ Below w.heap.size w wr ∧ Ob.Obj wr w.heap.size 27 [.slice fa p.funcs.length fc, .slice oa p.opts.length oc] ∧ Ob.Obj wr (w.heap.size + 1) 27 [.slice fa2 p.funcs.length fc2, .slice oa2 p.opts.length oc2]) (fun i _ => p.opts.length - (intOf i).toNat)
  case atStart => exact ⟨0, Nat.zero_le _, rfl, hA, oP, oQ⟩
  case round =>
    clear hA oP oQ
    obtain ⟨q, hq, rfl, hB, oP, oQ⟩ := hrel
    obtain ⟨wo, rfl⟩ : ∃ wo : World, wo = wr := ⟨_, rfl⟩
    have p0 := oP.cell 0
    have p1 := oP.cell 1
    have q0 := oQ.cell 0
    have q1 := oQ.cell 1
    simp at p0 p1 q0 q1
    by_cases hlt : q < p.opts.length
    · obtain ⟨rfl, hob⟩ := HOA.out (by omega)
      obtain ⟨rfl, hob2⟩ := HOA2.out (by omega)
      have c0 := HB.out wo hB q hlt 0 (by decide)
      have c1 := HB.out wo hB q hlt 1 (by decide)
      have c2 := HB.out wo hB q hlt 2 (by decide)
      have c3 := HB.out wo hB q hlt 3 (by decide)
      have c4 := HB.out wo hB q hlt 4 (by decide)
      have c5 := HB.out wo hB q hlt 5 (by decide)
      have c6 := HB.out wo hB q hlt 6 (by decide)
      have c7 := HB.out wo hB q hlt 7 (by decide)
      have c8 := HB.out wo hB q hlt 8 (by decide)
      have c9 := HB.out wo hB q hlt 9 (by decide)
      have c10 := HB.out wo hB q hlt 10 (by decide)
      have d0 := HB2.out wo hB q hlt 0 (by decide)
      have d1 := HB2.out wo hB q hlt 1 (by decide)
      have d2 := HB2.out wo hB q hlt 2 (by decide)
      have d3 := HB2.out wo hB q hlt 3 (by decide)
      have d4 := HB2.out wo hB q hlt 4 (by decide)
      have d5 := HB2.out wo hB q hlt 5 (by decide)
      have d6 := HB2.out wo hB q hlt 6 (by decide)
      have d7 := HB2.out wo hB q hlt 7 (by decide)
      have d8 := HB2.out wo hB q hlt 8 (by decide)
      have d9 := HB2.out wo hB q hlt 9 (by decide)
      have d10 := HB2.out wo hB q hlt 10 (by decide)
      have hi1 : (0 : Int) ≤ (q : Int) ∧ (q : Int) < (p.opts.length : Int) := by omega
      generalize p.opts[q] = o at *
      unfold optC at c0 c1 c2 c3 c4 c5 c6 c7 c8 c9 c10 d0 d1 d2 d3 d4 d5 d6 d7 d8 d9 d10
      simp only [List.getElem?_cons_zero, List.getElem?_cons_succ, Nat.add_zero] at c0 c1 c2 c3 c4 c5 c6 c7 c8 c9 c10 d0 d1 d2 d3 d4 d5 d6 d7 d8 d9 d10
      go_wp2_with fail
      go_big_quiet (fail)
      go_wp2_with fail
      go_roundw
      case rel => exact ⟨q + 1, by omega, by go_num, belowN hB _, oP, oQ⟩
      case measure => simp [intOf]; omega
    · obtain rfl : q = p.opts.length := by omega
      clear HB HB2 HOA HOA2
      go_wp2_with fail
      go_loopw [6] (fun i wr => ∃ q : Nat, q ≤ p.funcs.length ∧ i = .int .i64 (q : Int) ∧ Below w.heap.size w wr ∧ Ob.Obj wr w.heap.size 27 [.slice fa p.funcs.length fc, .slice oa p.opts.length oc] ∧ Ob.Obj wr (w.heap.size + 1) 27 [.slice fa2 p.funcs.length fc2, .slice oa2 p.opts.length oc2]) (fun i _ => p.funcs.length - (intOf i).toNat)
      case atStart => exact ⟨0, Nat.zero_le _, rfl, hB, oP, oQ⟩
      case round =>
        clear hB oP oQ p0 p1 q0 q1
        obtain ⟨q, hq, rfl, hB, oP, oQ⟩ := hrel
        obtain ⟨wo, rfl⟩ : ∃ wo : World, wo = wr := ⟨_, rfl⟩
        have p0 := oP.cell 0
        have q0 := oQ.cell 0
        simp at p0 q0
        by_cases hlt : q < p.funcs.length
        · obtain ⟨rfl, hfb⟩ := HA.out (by omega)
          obtain ⟨rfl, hfb2⟩ := HA2.out (by omega)
          obtain ⟨d0, d1, u, d2, pa, pc, pb, po, rfl, hu1, hu2⟩ := HC.out q hlt
          obtain ⟨e0, e1, u, e2, ra, rc, rb, ro, rfl, hv1, hv2⟩ := HC2.out q hlt
          replace d0 := (hB.cell (p := ⟨fb, fo + q * 3, none⟩) hfb).trans d0
          replace d1 := (hB.cell (p := ⟨fb, fo + q * 3 + 1, none⟩) hfb).trans d1
          replace d2 := (hB.cell (p := ⟨fb, fo + q * 3 + 2, none⟩) hfb).trans d2
          replace e0 := (hB.cell (p := ⟨fb2, fo2 + q * 3, none⟩) hfb2).trans e0
          replace e1 := (hB.cell (p := ⟨fb2, fo2 + q * 3 + 1, none⟩) hfb2).trans e1
          replace e2 := (hB.cell (p := ⟨fb2, fo2 + q * 3 + 2, none⟩) hfb2).trans e2
          have hi1 : (0 : Int) ≤ (q : Int) ∧ (q : Int) < (p.funcs.length : Int) := by omega
          have hbs := hB.size
          have hwb : fb < wo.heap.size := by omega
          have hwb2 : fb2 < wo.heap.size := by omega
          have hln := HLN.out q hlt
          have HU1 := Lib.hid hu1
          have HU2 := Lib.hid hu2
          have HV1 := Lib.hid hv1
          have HV2 := Lib.hid hv2
          clear hu1 hu2 hv1 hv2
          generalize p.funcs[q] = f at *
          obtain ⟨kind, name, ops⟩ := f
          simp only at d0 d1 d2 e0 e1 e2 HU1 HU2 HV1 HV2 hln
          have hB2 := (hB.alloc hbs (.cells #[.int .i64 kind, .int .i64 name, .slice pa ops.length pc] 52))
          have e0' := (hB2.cell (p := ⟨fb2, fo2 + q * 3, none⟩) hfb2)
          have hB3 := hB2.alloc hB2.size (.cells #[.int .i64 kind, .int .i64 name, .slice ra ops.length rc] 52)
          have oP3 := (oP.alloc (.cells #[.int .i64 kind, .int .i64 name, .slice pa ops.length pc] 52)).alloc (.cells #[.int .i64 kind, .int .i64 name, .slice ra ops.length rc] 52)
          have oQ3 := (oQ.alloc (.cells #[.int .i64 kind, .int .i64 name, .slice pa ops.length pc] 52)).alloc (.cells #[.int .i64 kind, .int .i64 name, .slice ra ops.length rc] 52)
          have oF3 := (Ob.Obj.new wo 52 [.int .i64 kind, .int .i64 name, .slice pa ops.length pc]).alloc (.cells #[.int .i64 kind, .int .i64 name, .slice ra ops.length rc] 52)
          have oG3 := Ob.Obj.new (wo.alloc (.cells #[.int .i64 kind, .int .i64 name, .slice pa ops.length pc] 52)) 52 [.int .i64 kind, .int .i64 name, .slice ra ops.length rc]
          rw [show (wo.alloc (.cells #[.int .i64 kind, .int .i64 name, .slice pa ops.length pc] 52)).heap.size = wo.heap.size + 1 by simp] at oG3
          clear hB2 e0'
          have hpz := oP.lt
          have hqz := oQ.lt
          go_wp2_with fail
          go_loopw [9] (fun i wr => ∃ k : Nat, k ≤ ops.length ∧ i = .int .i64 (k : Int) ∧ Below w.heap.size w wr ∧ Ob.Obj wr w.heap.size 27 [.slice (some ⟨fb, fo, none⟩) p.funcs.length fc, .slice oa p.opts.length oc] ∧ Ob.Obj wr (w.heap.size + 1) 27 [.slice (some ⟨fb2, fo2, none⟩) p.funcs.length fc2, .slice oa2 p.opts.length oc2] ∧ Ob.Obj wr wo.heap.size 52 [.int .i64 kind, .int .i64 name, .slice pa ops.length pc] ∧ Ob.Obj wr (wo.heap.size + 1) 52 [.int .i64 kind, .int .i64 name, .slice ra ops.length rc]) (fun i _ => ops.length - (intOf i).toNat)
          case atStart => exact ⟨0, Nat.zero_le _, rfl, hB3, oP3, oQ3, oF3, oG3⟩
          case round =>
            clear hB3 oP3 oQ3 oF3 oG3 hB oP oQ p0 q0 d0 d1 d2 e0 e1 e2
            obtain ⟨k, hk, rfl, hB, oP, oQ, oF, oG⟩ := hrel
            obtain ⟨wq, rfl⟩ : ∃ wq : World, wq = wr := ⟨_, rfl⟩
            have g0 := oF.cell 2
            have g1 := oG.cell 2
            simp at g0 g1
            by_cases hkl : k < ops.length
            · obtain ⟨rfl, hpb⟩ := HU1.out (by omega)
              obtain ⟨rfl, hrb⟩ := HV1.out (by omega)
              obtain ⟨c0, c1⟩ := HU2.out k hkl
              obtain ⟨x0, x1⟩ := HV2.out k hkl
              replace c0 := (hB.cell (p := ⟨pb, po + k * 2, none⟩) hpb).trans c0
              replace c1 := (hB.cell (p := ⟨pb, po + k * 2 + 1, none⟩) hpb).trans c1
              replace x0 := (hB.cell (p := ⟨rb, ro + k * 2, none⟩) hrb).trans x0
              replace x1 := (hB.cell (p := ⟨rb, ro + k * 2 + 1, none⟩) hrb).trans x1
              have hk1 : (0 : Int) ≤ (k : Int) ∧ (k : Int) < (ops.length : Int) := by omega
              clear HU2 HV2
              generalize ops[k] = o at *
              obtain ⟨code, a⟩ := o
              simp only at c0 c1 x0 x1
              go_wp2_with fail
              go_big_quiet (fail)
              go_wp2_with fail
              go_roundw
              case rel => exact ⟨k + 1, by omega, by go_num, belowN hB _, oP, oQ, oF, oG⟩
              case measure => simp [intOf]; omega
            · obtain rfl : k = ops.length := by omega
              go_wp2_with fail
              go_roundw
              case rel => exact ⟨q + 1, by omega, by go_num, hB, oP, oQ⟩
              case measure => simp [intOf]; omega
        · obtain rfl : q = p.funcs.length := by omega
          go_wp2_with fail
          go_ret
          exact ⟨rfl, hB⟩
end Co
end Go.Proofs.Ytfkfckohajpcfaa

/-
  The document's first example of chapter 13, as the laws show it (tapestrylaw13.small, shown).
-/
namespace Go.Proofs.Ytfkfckohajpcfaa
open Go.RowKit
set_option linter.unusedSimpArgs false
set_option linter.unusedVariables false
namespace Co
def smallP : Prog := ⟨[⟨0, 0, [⟨17, 0⟩, ⟨36, 0⟩]⟩], []⟩
theorem small_in : ProgIn smallP := by
  refine ⟨fun f hf => ?_, fun o ho => (by cases ho), by decide, by decide⟩
  simp only [smallP, List.mem_singleton] at hf
  subst hf
  refine ⟨⟨by decide, by decide⟩, ⟨by decide, by decide⟩, by decide, fun o ho => ?_⟩
  simp only [List.mem_cons, List.not_mem_nil, or_false] at ho
  rcases ho with rfl | rfl <;> exact ⟨⟨by decide, by decide⟩, ⟨by decide, by decide⟩⟩
theorem check_small : check smallP = (0, 0, 0) := by decide +kernel
theorem check_empty : check empty = (40, -1, -1) := by decide +kernel
theorem load_small : loadP smallP = [1, 0, 0, 2, 17, 36, 0] := by
  have h1 : operandB 17 = false := by decide
  have h2 : operandB 36 = false := by decide
  simp [loadP, putFn, headF, putOp, smallP, h1, h2, Cd.putU_last]
theorem enc_small : encP smallP = ([1, 0, 0, 2, 17, 36, 0], 0) := by
  unfold encP
  rw [check_small, if_pos rfl, load_small]
theorem dec_small : decA [1, 0, 0, 2, 17, 36, 0] = (smallP, 0, 0) := by
  have := dec_enc small_in (by rw [check_small]) []
  rw [if_pos rfl, List.append_nil, load_small] at this
  rw [dec_alike, this]

theorem small_pr {W : World} {bF bO : Nat} (hF : Ob.Obj W bF 52 [.int .i64 0, .int .i64 0, .slice (some ⟨bO, 0, none⟩) 2 2]) (hO : Ob.Obj W bO 59 [.int .i64 17, .int .i64 0, .int .i64 36, .int .i64 0]) :
    Pr W.heap.size W (.slice (some ⟨bF, 0, none⟩) 1 1) (.slice none 0 0) smallP := by
  refine ⟨⟨_, 1, bF, 0, rfl, fun _ => ⟨rfl, hF.lt⟩, fun j hj => ?_⟩, ⟨none, 0, 0, 0, rfl, fun h => absurd h (Nat.lt_irrefl _), fun j h => absurd h (Nat.not_lt_zero _)⟩⟩
  obtain rfl : j = 0 := by have : j < 1 := hj; omega
  refine ⟨hF.cell 0, hF.cell 1, _, hF.cell 2, ⟨_, 2, bO, 0, rfl, fun _ => ⟨rfl, hO.lt⟩, fun k hk => ?_⟩⟩
  have : k = 0 ∨ k = 1 := by have : k < 2 := hk; omega
  rcases this with rfl | rfl
  · exact ⟨hO.cell 0, hO.cell 1⟩
  · exact ⟨hO.cell 2, hO.cell 3⟩

set_option maxRecDepth 100000 in
set_option maxHeartbeats 4000000 in
theorem small_any (w : World) :
    Calls Try.prog 25 #[] w fun e w' => ∃ fv ov, e = .returned (.agg #[fv, ov]) ∧ Pr w'.heap.size w' fv ov smallP ∧ Below w.heap.size w w' := by
  go_enter Try.func25, Try.ntmps25
  go_wp2_with fail
  refine bodyPost_ret (v := .agg #[.slice (some ⟨w.heap.size + 2, 0, none⟩) 1 1, .slice none 0 0]) (by simp [results, Try.results25, go_sem]) rfl ?_
  refine ⟨_, _, rfl, ?_, (((Below.refl _ _).alloc (Nat.le_refl _) _).alloc (by simp) _).alloc (by simp; omega) _⟩
  have hO := (Ob.Obj.new (w.alloc (.cells #[.slice (some ⟨w.heap.size + 1 + 1, 0, none⟩) 1 1, .slice none 0 0] 27)) 59 [.int .i64 17, .int .i64 0, .int .i64 36, .int .i64 0]).alloc (.cells #[.int .i64 0, .int .i64 0, .slice (some ⟨w.heap.size + 1, 0, none⟩) 2 2] 52)
  have hF := Ob.Obj.new ((w.alloc (.cells #[.slice (some ⟨w.heap.size + 1 + 1, 0, none⟩) 1 1, .slice none 0 0] 27)).alloc (.cells #[.int .i64 17, .int .i64 0, .int .i64 36, .int .i64 0] 59)) 52 [.int .i64 0, .int .i64 0, .slice (some ⟨w.heap.size + 1, 0, none⟩) 2 2]
  have e1 : (w.alloc (.cells #[.slice (some ⟨w.heap.size + 1 + 1, 0, none⟩) 1 1, .slice none 0 0] 27)).heap.size = w.heap.size + 1 := by simp
  have e2 : ((w.alloc (.cells #[.slice (some ⟨w.heap.size + 1 + 1, 0, none⟩) 1 1, .slice none 0 0] 27)).alloc (.cells #[.int .i64 17, .int .i64 0, .int .i64 36, .int .i64 0] 59)).heap.size = w.heap.size + 2 := by simp
  rw [e1] at hO
  rw [e2] at hF
  exact small_pr hF hO

set_option maxRecDepth 100000 in
set_option maxHeartbeats 8000000 in
theorem shown_any (w : World) :
    Calls Try.prog 10 #[] w fun e w' => e = .returned (.bool true) ∧ Below w.heap.size w w' := by
  have HSM := Lib.hid small_any
  have HCK := Lib.hid (fun fv ov W (h : Pr W.heap.size W fv ov smallP) => show Calls Try.prog 16 #[.agg #[fv, ov]] W fun e w' => e = .returned (.tuple #[.int .i64 0, .int .i64 0, .int .i64 0]) ∧ Below W.heap.size W w' from by
    have := check_any fv ov smallP W h small_in
    rw [check_small] at this
    exact this)
  have HCE := Lib.hid (fun W => show Calls Try.prog 16 #[.agg #[.slice none 0 0, .slice none 0 0]] W fun e w' => e = .returned (.tuple #[.int .i64 40, .int .i64 (-1), .int .i64 (-1)]) ∧ Below W.heap.size W w' from by
    have := check_any (.slice none 0 0) (.slice none 0 0) empty W (empty_pr _ _) ⟨fun f hf => (by cases hf), fun o ho => (by cases ho), by decide, by decide⟩
    rw [check_empty] at this
    exact this)
  have HEN := Lib.hid (fun fv ov W (h : Pr W.heap.size W fv ov smallP) => show Calls Try.prog 21 #[.agg #[fv, ov]] W fun e w' => e = .returned (.tuple #[.string ⟨#[1, 0, 0, 2, 17, 36, 0]⟩, .int .i64 0]) ∧ Below W.heap.size W w' from by
    have := encode_any fv ov smallP W h small_in
    rw [enc_small] at this
    exact this)
  have HDE := Lib.hid (fun W => show Calls Try.prog 23 #[.string ⟨#[1, 0, 0, 2, 17, 36, 0]⟩] W fun e w' => ∃ fv ov, e = .returned (.tuple #[.agg #[fv, ov], .int .i64 0, .int .i64 0]) ∧ Pr w'.heap.size w' fv ov smallP ∧ Below W.heap.size W w' from by
    have := decode_any [1, 0, 0, 2, 17, 36, 0] W (by decide)
    rw [dec_small] at this
    exact this)
  have HSA := Lib.hid (fun fv ov fv2 ov2 W (h : Pr W.heap.size W fv ov smallP) (h2 : Pr W.heap.size W fv2 ov2 smallP) => sameR_any fv ov fv2 ov2 smallP W h h2 small_in)
  have hpf : ∀ {W : World} {fv ov : Value}, Pr W.heap.size W fv ov smallP → ∃ a c, fv = .slice a 1 c ∧ ∃ a2 c2, ov = .slice a2 0 c2 := fun h => by
    obtain ⟨⟨a, c, _, _, h1, _⟩, ⟨a2, c2, _, _, h2, _⟩⟩ := h
    exact ⟨a, c, h1, a2, c2, h2⟩
  have HPF := Lib.hid (fun W fv ov h => @hpf W fv ov h)
  clear hpf
  have tk1 := trivial
  go_enter Try.func10, Try.ntmps10
  go_wp2_with (first
    | (go_at_call 25; have _t := tk1; clear _t tk1; (with_reducible refine (HSM.out _).mono ?_); rintro e w1 ⟨fv1, ov1, rfl, hP1, hb1⟩; have tk2 := trivial)
    | (go_at_call 25; have _t := tk2; clear _t tk2; (with_reducible refine (HSM.out _).mono ?_); rintro e w3 ⟨fv3, ov3, rfl, hP3, hb3⟩)
    | (go_at_call 16; (with_reducible refine (HCK.out _ _ _ hP1).mono ?_); rintro e w2 ⟨rfl, hb2⟩)
    | (go_at_call 21; (with_reducible refine (HEN.out _ _ _ hP3).mono ?_); rintro e w4 ⟨rfl, hb4⟩)
    | (go_at_call 23; (with_reducible refine (HDE.out _).mono ?_); rintro e w5 ⟨fv5, ov5, rfl, hP5, hb5⟩; have HP5 := Lib.hid hP5; obtain ⟨xa, xc, rfl, ya, yc, rfl⟩ := HPF.out _ _ _ hP5; clear hP5))
  have oP6 := Ob.Obj.new w5 27 [.slice xa 1 xc, .slice ya 0 yc]
  have HP6 := Lib.hid ((HP5.out.below ((Below.refl w5.heap.size w5).alloc (Nat.le_refl _) (.cells #[.slice xa 1 xc, .slice ya 0 yc] 27))).wider (B' := (w5.alloc (.cells #[.slice xa 1 xc, .slice ya 0 yc] 27)).heap.size) (by simp))
  have b2 := hb1.trans (hb2.mono hb1.size)
  have b3 := b2.trans (hb3.mono b2.size)
  have b4 := b3.trans (hb4.mono b3.size)
  have b5 := b4.trans (hb5.mono b4.size)
  have HB6 := Lib.hid (b5.alloc b5.size (.cells #[.slice xa 1 xc, .slice ya 0 yc] 27))
  have c0 := oP6.cell 0
  have c1 := oP6.cell 1
  simp at c0 c1
  clear b2 b3 b4 b5 hb1 hb2 hb3 hb4 hb5 HP5 hP1 hP3 HCK HEN HDE HPF
  go_region_with (first
    | (go_at_call 25; (with_reducible refine (HSM.out _).mono ?_); rintro e w7 ⟨fv7, ov7, rfl, hP7, hb7⟩; have oP7 : Ob.Obj w7 w5.heap.size 27 [.slice xa 1 xc, .slice ya 0 yc] := (by refine Ob.Obj.below ?_ hb7; exact oP6); have d0 := oP7.cell 0; have d1 := oP7.cell 1; simp at d0 d1; have HPX : Hid (Pr w7.heap.size w7 (.slice xa 1 xc) (.slice ya 0 yc) smallP) := (by refine Pr.wider ?_ hb7.size; refine Pr.below ?_ hb7; first | exact HP6.out | exact HP6.out.below (Below.refl _ _).drew); have HB7 : Hid (Below w.heap.size w w7) := (by refine Below.trans ?_ (hb7.mono ?_); (first | exact HB6.out | exact HB6.out.drew); exact HB6.out.size))
    | (go_at_call 18; refine (HSA.out _ _ _ _ _ HPX.out hP7).mono ?_; rintro e w8 ⟨rfl, hb8⟩; have HB8 := Lib.hid (HB7.out.trans (hb8.mono HB7.out.size))))
  all_goals go_wp2_with (go_at_call 16; (with_reducible refine (HCE.out _).mono ?_); rintro e w9 ⟨rfl, hb9⟩)
  all_goals go_ret
  all_goals exact ⟨rfl, HB8.out.trans (hb9.mono HB8.out.size)⟩
end Co
end Go.Proofs.Ytfkfckohajpcfaa

/-
  Programs that came in, opened.
-/
namespace Go.Proofs.Ytfkfckohajpcfaa
open Go.RowKit
set_option linter.unusedVariables false
set_option linter.unusedSimpArgs false
namespace Co
open Gn
theorem i64m13 {n : Int} (h : (Lit.int .i64 n).wf = true) : I64 n := by simpa [Lit.wf, IntKind.min, IntKind.max, IntKind.signed, IntKind.bits, I64] using h
theorem mem_sum13 {α : Type} (f : α → Nat) : ∀ (l : List α) (j : Nat) (h : j < l.length), f l[j] ≤ (l.map f).sum
  | x :: r, 0, _ => by simp
  | x :: r, j + 1, h => by
    have := mem_sum13 f r j (by simpa using h)
    simp; omega
theorem len_sum13 {α : Type} (f : α → Nat) (h1 : ∀ x, 1 ≤ f x) : ∀ l : List α, l.length ≤ (l.map f).sum
  | [] => by simp
  | x :: r => by
    have := len_sum13 f h1 r
    have := h1 x
    simp; omega
abbrev opT : Ty := .struct (.cons (.int .i64) (.cons (.int .i64) .nil))
abbrev fnT : Ty := .struct (.cons (.int .i64) (.cons (.int .i64) (.cons (.slice opT) .nil)))
abbrev optT : Ty := .struct (.cons (.int .i64) (.cons (.int .i64) (.cons (.int .i64) (.cons (.int .i64) (.cons (.int .i64) (.cons (.int .i64) (.cons (.int .i64) (.cons (.int .i64) (.cons (.int .i64) (.cons (.int .i64) (.cons (.int .i64) .nil)))))))))))
abbrev progT : Ty := .struct (.cons (.slice fnT) (.cons (.slice optT) .nil))
abbrev OD : Type := Int × Int × Unit
abbrev FD : Type := Int × Int × List OD × Unit
abbrev TD13 : Type := Int × Int × Int × Int × Int × Int × Int × Int × Int × Int × Int × Unit
abbrev PD13 : Type := List FD × List TD13 × Unit
def toOp (x : OD) : Op2 := ⟨x.1, x.2.1⟩
def toFn (x : FD) : Fn := ⟨x.1, x.2.1, x.2.2.1.map toOp⟩
def toOpt (x : TD13) : Opt := ⟨x.1, x.2.1, x.2.2.1, x.2.2.2.1, x.2.2.2.2.1, x.2.2.2.2.2.1, x.2.2.2.2.2.2.1, x.2.2.2.2.2.2.2.1, x.2.2.2.2.2.2.2.2.1, x.2.2.2.2.2.2.2.2.2.1, x.2.2.2.2.2.2.2.2.2.2.1⟩
def toP (x : PD13) : Prog := ⟨x.1.map toFn, x.2.1.map toOpt⟩
theorem rd_op {B : Nat} {W : World} {cs : List Value} {x : OD} (h : RdC B W opT cs x) : cs = [.int .i64 (toOp x).code, .int .i64 (toOp x).a] ∧ I64 (toOp x).code ∧ I64 (toOp x).a := by
  obtain ⟨c1, d1, rfl, _, ⟨rfl, w1⟩, c2, d2, rfl, _, ⟨rfl, w2⟩, rfl⟩ := h
  exact ⟨rfl, i64m13 w1, i64m13 w2⟩
theorem rd_opt {B : Nat} {W : World} {cs : List Value} {x : TD13} (h : RdC B W optT cs x) : cs = optC (toOpt x) ∧ OptIn (toOpt x) := by
  obtain ⟨c1, d1, rfl, _, ⟨rfl, w1⟩, c2, d2, rfl, _, ⟨rfl, w2⟩, c3, d3, rfl, _, ⟨rfl, w3⟩, c4, d4, rfl, _, ⟨rfl, w4⟩, c5, d5, rfl, _, ⟨rfl, w5⟩, c6, d6, rfl, _, ⟨rfl, w6⟩, c7, d7, rfl, _, ⟨rfl, w7⟩, c8, d8, rfl, _, ⟨rfl, w8⟩, c9, d9, rfl, _, ⟨rfl, w9⟩, c10, d10, rfl, _, ⟨rfl, w10⟩, c11, d11, rfl, _, ⟨rfl, w11⟩, rfl⟩ := h
  exact ⟨rfl, i64m13 w1, i64m13 w2, i64m13 w3, i64m13 w4, i64m13 w5, i64m13 w6, i64m13 w7, i64m13 w8, i64m13 w9, i64m13 w10, i64m13 w11⟩
def obulk (x : OD) : Nat := opT.bulk x
def fbulk (x : FD) : Nat := fnT.bulk x
def tbulk (x : TD13) : Nat := optT.bulk x
theorem obulk_pos (x : OD) : 1 ≤ obulk x := by show 1 ≤ _ + 1; omega
theorem fbulk_pos (x : FD) : 1 ≤ fbulk x := by show 1 ≤ _ + 1; omega
theorem tbulk_pos (x : TD13) : 1 ≤ tbulk x := by show 1 ≤ _ + 1; omega
theorem fbulk_eq (x : FD) : fbulk x = 1 + (1 + (((x.2.2.1.map obulk).sum + 1) + 0)) + 1 := rfl
theorem rd_fn {B : Nat} {W : World} {cs : List Value} {x : FD} (h : RdC B W fnT cs x) (hb : fbulk x ≤ 1048576) : ∃ u, cs = [.int .i64 (toFn x).kind, .int .i64 (toFn x).name, u] ∧ Ops B W u (toFn x).ops ∧ FnIn (toFn x) := by
  obtain ⟨kind, name, ops, uu⟩ := x
  rw [fbulk_eq] at hb
  obtain ⟨c1, d1, rfl, _, ⟨rfl, w1⟩, c2, d2, rfl, _, ⟨rfl, w2⟩, c3, d3, rfl, _, h3, rfl⟩ := h
  obtain ⟨a, cap, b, off, h1, _, _, h2, h4⟩ := h3
  change List OD at ops
  simp only at hb h1 h2 h4 w1 w2
  have hl := len_sum13 obulk obulk_pos ops
  subst h1
  refine ⟨_, rfl, ⟨a, cap, b, off, ?_, ?_, ?_⟩, i64m13 w1, i64m13 w2, ?_, ?_⟩
  · show Value.slice a ops.length cap = .slice a (ops.map toOp).length cap
    rw [List.length_map]
  · intro h0
    have h0' : 0 < ops.length := by simpa [toFn] using h0
    exact h2 h0'
  · intro j hj
    have hj' : j < ops.length := by simpa [toFn] using hj
    obtain ⟨cs', g1, g2, g3⟩ := h4 j hj'
    obtain ⟨rfl, _⟩ := rd_op g3
    have e2 : (toFn (kind, name, ops, uu)).ops[j] = toOp ops[j] := by simp [toFn]
    rw [e2]
    exact ⟨g2 0 (by decide), g2 1 (by decide)⟩
  · show (ops.map toOp).length ≤ _
    rw [List.length_map]; omega
  · intro o ho
    obtain ⟨y, hy, rfl⟩ := List.mem_map.1 ho
    obtain ⟨j, hj, rfl⟩ := List.getElem_of_mem hy
    obtain ⟨cs', g1, g2, g3⟩ := h4 j hj
    exact (rd_op g3).2
theorem rd_prog {B : Nat} {W : World} {cs : List Value} {x : PD13} (h : RdC B W progT cs x) {b : Nat} (hb : progT.bulk x ≤ b) (hb2 : b ≤ 1048576) : ∃ fv ov, cs = [fv, ov] ∧ Pr B W fv ov (toP x) ∧ ProgIn (toP x) := by
  obtain ⟨F, O, uu⟩ := x
  obtain ⟨c1, d1, rfl, _, h1, c2, d2, rfl, _, h2, rfl⟩ := h
  obtain ⟨a, cap, tb, off, e1, _, _, g2, g3⟩ := h1
  obtain ⟨a', cap', tb', off', e1', _, _, g2', g3'⟩ := h2
  change List FD at F
  change List TD13 at O
  replace hb : ((F.map fbulk).sum + 1) + (((O.map tbulk).sum + 1) + 0) + 1 ≤ b := hb
  have hl1 := len_sum13 fbulk fbulk_pos F
  have hl2 := len_sum13 tbulk tbulk_pos O
  subst e1
  subst e1'
  simp only at g2 g3 g2' g3'
  have hfn : ∀ j (hj : j < F.length), fbulk F[j] ≤ 1048576 := fun j hj => by
    have := mem_sum13 fbulk F j hj
    omega
  refine ⟨_, _, rfl, ⟨⟨a, cap, tb, off, ?_, ?_, ?_⟩, ⟨a', cap', tb', off', ?_, ?_, ?_⟩⟩, ⟨?_, ?_, ?_, ?_⟩⟩
  · show Value.slice a F.length cap = .slice a (F.map toFn).length cap
    rw [List.length_map]
  · intro h0
    have h0' : 0 < F.length := by simpa [toP] using h0
    exact g2 h0'
  · intro j hj
    have hj' : j < F.length := by simpa [toP] using hj
    obtain ⟨cs', k1, k2, k3⟩ := g3 j hj'
    obtain ⟨u, rfl, hu, _⟩ := rd_fn (x := F[j]) k3 (hfn j hj')
    have e2 : (toP (F, O, uu)).funcs[j] = toFn F[j] := by simp [toP]
    rw [e2]
    exact ⟨k2 0 (by decide), k2 1 (by decide), u, k2 2 (by decide), hu⟩
  · show Value.slice a' O.length cap' = .slice a' (O.map toOpt).length cap'
    rw [List.length_map]
  · intro h0
    have h0' : 0 < O.length := by simpa [toP] using h0
    exact g2' h0'
  · intro j hj
    have hj' : j < O.length := by simpa [toP] using hj
    obtain ⟨cs', k1, k2, k3⟩ := g3' j hj'
    obtain ⟨rfl, _⟩ := rd_opt (x := O[j]) k3
    have e2 : (toP (F, O, uu)).opts[j] = toOpt O[j] := by simp [toP]
    rw [e2]
    exact k2
  · intro f hf
    obtain ⟨y, hy, rfl⟩ := List.mem_map.1 hf
    obtain ⟨j, hj, rfl⟩ := List.getElem_of_mem hy
    obtain ⟨cs', k1, k2, k3⟩ := g3 j hj
    obtain ⟨_, _, _, h⟩ := rd_fn (x := F[j]) k3 (hfn j hj)
    exact h
  · intro o ho
    obtain ⟨y, hy, rfl⟩ := List.mem_map.1 ho
    obtain ⟨j, hj, rfl⟩ := List.getElem_of_mem hy
    obtain ⟨cs', k1, k2, k3⟩ := g3' j hj
    exact (rd_opt (x := O[j]) k3).2
  · show (F.map toFn).length ≤ _
    rw [List.length_map]; omega
  · show (O.map toOpt).length ≤ _
    rw [List.length_map]; omega

variable {H : Type} {enc : TypeId × Value → H} {W : World}
set_option maxRecDepth 100000 in
theorem open_prog {B : Nat} {v : Value} {d : DataW H} {p : List MemPlace} {base : Nat} (hv : Value.okWide Try.prog W .any base 27 v)
    (h : DataW.Trod enc Try.prog W 0 (fun _ => true) true 27 v d p) (hlt : ∀ x ∈ p, x.block < W.heap.size) (hB : Rows.uptoBulk d ≤ B) (hB2 : B ≤ 1048576 := by omega) :
    ∃ (p : Prog) (fv ov : Value), v = .agg #[fv, ov] ∧ (Pr W.heap.size W fv ov p ∧ ProgIn p) := by
  obtain ⟨cs, x, rfl, hx, hb⟩ := open_val progT (by kernel_rfl) hv h hB
  obtain ⟨fv, ov, rfl, hP, hI⟩ := rd_prog (x := x) hx hb hB2
  exact ⟨toP x, fv, ov, rfl, hP, hI⟩
end Co
end Go.Proofs.Ytfkfckohajpcfaa

/-
  The dump is laid out.
-/
namespace Go.Proofs.Ytfkfckohajpcfaa
open Go.RowKit
theorem laidOut : laidOutB Try.prog = true := by kernel_rfl
end Go.Proofs.Ytfkfckohajpcfaa

/-
  The laws CodeKinds, CodeFinds, CodeBack, CodeCuts walked.
-/
namespace Go.Proofs.Ytfkfckohajpcfaa
open Go.RowKit
set_option linter.unusedSimpArgs false
set_option linter.unusedVariables false
namespace Co

set_option maxRecDepth 100000 in
set_option maxHeartbeats 4000000 in
theorem codeKinds_law (op : Int) (w : World) (h1 : -9223372036854775808 ≤ op) (h2 : op ≤ 9223372036854775807) :
    Calls Try.prog 3 #[.int .i64 op] w fun e w' => e = .returned (.bool true) ∧ Below w.heap.size w w' := by
  have HS := Lib.hid (shown_any w)
  have H1 := Lib.hid (operand_any op)
  have H2 := Lib.hid (operandR_any op)
  have H3 := Lib.hid (pure_any op)
  have H4 := Lib.hid (pureR_any op)
  go_enter Try.func3, Try.ntmps3
  go_wp2_with (first
    | (go_at_call 10; (with_reducible refine HS.out.mono ?_); rintro e w1 ⟨rfl, hb1⟩)
    | (go_at_call 11; (with_reducible refine (H1.out _).mono ?_); rintro e w2 ⟨rfl, rfl⟩)
    | (go_at_call 12; (with_reducible refine (H2.out _).mono ?_); rintro e w2 ⟨rfl, rfl⟩)
    | (go_at_call 13; (with_reducible refine (H3.out _).mono ?_); rintro e w2 ⟨rfl, rfl⟩)
    | (go_at_call 14; (with_reducible refine (H4.out _).mono ?_); rintro e w2 ⟨rfl, rfl⟩))
  go_ret
  exact ⟨by simp, hb1⟩

set_option maxRecDepth 100000 in
set_option maxHeartbeats 4000000 in
theorem codeFinds_law (p : Prog) (fv ov : Value) (kind name : Int) (w : World) (hp : Pr w.heap.size w fv ov p ∧ ProgIn p) (h1 : -9223372036854775808 ≤ kind) (h2 : kind ≤ 9223372036854775807) (h3 : -9223372036854775808 ≤ name) (h4 : name ≤ 9223372036854775807) :
    Calls Try.prog 5 #[.agg #[fv, ov], .int .i64 kind, .int .i64 name] w fun e w' => e = .returned (.bool true) ∧ Below w.heap.size w w' := by
  obtain ⟨hP, hI⟩ := hp
  have HF := Lib.hid (fun W (hb : Below w.heap.size w W) => find_any fv ov p kind name W ((hP.below hb).wider hb.size) hI)
  have HG := Lib.hid (fun W (hb : Below w.heap.size w W) => findR_any fv ov p kind name W ((hP.below hb).wider hb.size) hI)
  obtain ⟨⟨fa, fc, _, _, rfl, _⟩, ⟨oa, oc, _, _, rfl, _⟩⟩ := hP
  have hA : Below w.heap.size w (w.alloc (.cells #[.slice fa p.funcs.length fc, .slice oa p.opts.length oc] 27)) := (Below.refl _ _).alloc (Nat.le_refl _) _
  have oP := Ob.Obj.new w 27 [.slice fa p.funcs.length fc, .slice oa p.opts.length oc]
  have HS := Lib.hid (shown_any (w.alloc (.cells #[.slice fa p.funcs.length fc, .slice oa p.opts.length oc] 27)))
  go_enter Try.func5, Try.ntmps5
  go_wp2_with (first
    | (go_at_call 10; (with_reducible refine HS.out.mono ?_); rintro e w1 ⟨rfl, hb1⟩; have hB1 := hA.trans (hb1.mono hA.size); have oP1 := oP.below hb1; have k0 := oP1.cell 0; have k1 := oP1.cell 1; simp at k0 k1)
    | (go_at_call 19; (with_reducible refine (HF.out _ hB1).mono ?_); rintro e w2 ⟨rfl, hb2⟩; have hB2 := hB1.trans (hb2.mono hB1.size); have oP2 := oP1.below hb2; have j0 := oP2.cell 0; have j1 := oP2.cell 1; simp at j0 j1)
    | (go_at_call 20; (with_reducible refine (HG.out _ hB2).mono ?_); rintro e w3 ⟨rfl, hb3⟩; have hB3 := hB2.trans (hb3.mono hB2.size)))
  go_ret
  exact ⟨by simp, hB3⟩

end Co
end Go.Proofs.Ytfkfckohajpcfaa

/-
  The law CodeBack walked.
-/
namespace Go.Proofs.Ytfkfckohajpcfaa
open Go.RowKit
set_option linter.unusedSimpArgs false
set_option linter.unusedVariables false
namespace Co
theorem bs_of (s : ByteArray) : ∃ l : Dat, s = Cd.bs l ∧ l.length = s.size := ⟨s.data.toList, by apply ByteArray.ext; simp [Cd.bs], by simp⟩
theorem pr_form {B : Nat} {W : World} {fv ov : Value} {p : Prog} (h : Pr B W fv ov p) : ∃ a c, fv = .slice a p.funcs.length c ∧ ∃ a2 c2, ov = .slice a2 p.opts.length c2 := by
  obtain ⟨⟨a, c, _, _, h1, _⟩, ⟨a2, c2, _, _, h2, _⟩⟩ := h
  exact ⟨a, c, h1, a2, c2, h2⟩
/-- Decode, of whatever bytes, as the laws use it -/
theorem decode_at (l : Dat) (q : Prog) (f a : Nat) (hd : dec l = (q, f, a)) (W : World) (hl : l.length ≤ 2097152) :
    Calls Try.prog 23 #[.string (Cd.bs l)] W fun e w' => ∃ (x y : Option Addr) (c d : Nat), e = .returned (.tuple #[.agg #[.slice x q.funcs.length c, .slice y q.opts.length d], .int .i64 (f : Int), .int .i64 (a : Int)]) ∧ Pr w'.heap.size w' (.slice x q.funcs.length c) (.slice y q.opts.length d) q ∧ Below W.heap.size W w' := by
  refine (decode_any l W hl).mono ?_
  rintro e w' ⟨fv, ov, he, hP, hb⟩
  rw [dec_alike, hd] at he hP
  obtain ⟨x, c, rfl, y, d, rfl⟩ := pr_form hP
  exact ⟨x, y, c, d, he, hP, hb⟩
/-- what stood below stands behind a box and steps -/
theorem Pr.grow {B : Nat} {W W' : World} {fv ov : Value} {p : Prog} (h : Pr B W fv ov p) (hb : Below B W W') (hB : B ≤ W.heap.size) : Pr W'.heap.size W' fv ov p := (h.below hb).wider (Nat.le_trans hB hb.size)

set_option maxRecDepth 100000 in
set_option maxHeartbeats 8000000 in
theorem codeBack_law (p : Prog) (fv ov : Value) (s : ByteArray) (w : World) (hp : Pr w.heap.size w fv ov p ∧ ProgIn p) (hs : s.size ≤ 1048576) :
    Calls Try.prog 8 #[.agg #[fv, ov], .string s] w fun e w' => e = .returned (.bool true) ∧ Below w.heap.size w w' := by
  obtain ⟨hP, hI⟩ := hp
  obtain ⟨l, rfl, hl⟩ := bs_of s
  rw [← hl] at hs
  have HP := Lib.hid (fun W (hb : Below w.heap.size w W) => (hP.below hb).wider hb.size)
  have HI := Lib.hid hI
  have HEN := Lib.hid (fun W (hb : Below w.heap.size w W) => encode_any fv ov p W ((hP.below hb).wider hb.size) hI)
  have HSA := Lib.hid (fun fv2 ov2 fv3 ov3 (q : Prog) (hq : ProgIn q) W (h2 : Pr W.heap.size W fv2 ov2 q) (h3 : Pr W.heap.size W fv3 ov3 q) => sameR_any fv2 ov2 fv3 ov3 q W h2 h3 hq)
  obtain ⟨fa, fc, rfl, oa, oc, rfl⟩ := pr_form hP
  have hA : Below w.heap.size w (w.alloc (.cells #[.slice fa p.funcs.length fc, .slice oa p.opts.length oc] 27)) := (Below.refl _ _).alloc (Nat.le_refl _) _
  have oP := Ob.Obj.new w 27 [.slice fa p.funcs.length fc, .slice oa p.opts.length oc]
  have HS := Lib.hid (shown_any (w.alloc (.cells #[.slice fa p.funcs.length fc, .slice oa p.opts.length oc] 27)))
  obtain ⟨q, f, a, hd⟩ : ∃ q f a, dec l = (q, f, a) := ⟨_, _, _, rfl⟩
  have HD := Lib.hid (fun W => decode_at l q f a hd W (by omega))
  have hfq : f = 0 → ProgIn q ∧ encP q = (l, 0) := fun h => by
    have h0 : (dec l).2.1 = 0 := by rw [hd]; exact h
    obtain ⟨h1, h2, h3, h4⟩ := dec_ok h0
    have e1 := enc_dec h0
    rw [hd] at h1 e1
    refine ⟨?_, e1⟩
    have : q = rdP l := congrArg (·.1) h1
    rw [this]
    exact pok_in (rd_sound h2).2
  have HFQ := Lib.hid hfq
  clear hP hI hfq hd
  rcases check_cases p with hbad | hgood
  · have HE := Lib.hid (show encP p = ([], 40) by unfold encP; rw [if_neg (by omega)])
    rw [HE.out] at HEN
    simp only at HEN
    clear hbad
    by_cases hf : f = 0
    · subst hf
      obtain ⟨hq, heq⟩ := HFQ.out rfl
      have HEQ := Lib.hid (fun fv2 ov2 W (h : Pr W.heap.size W fv2 ov2 q) => encode_any fv2 ov2 q W h hq)
      rw [heq] at HEQ
      simp only at HEQ
      clear heq hq
      go_enter Try.func8, Try.ntmps8
      go_wp2_with (first
        | (go_at_call 10; (with_reducible refine HS.out.mono ?_); rintro e w1 ⟨rfl, hb1⟩; have hB1 := hA.trans (hb1.mono hA.size); have oP1 := oP.below hb1; have k0 := oP1.cell 0; have k1 := oP1.cell 1; simp at k0 k1; have tk := trivial)
        | (go_at_call 21; have _t := tk; clear _t tk; (with_reducible refine (HEN.out _ hB1).mono ?_); rintro e w2 ⟨rfl, hb2⟩; have hB2 := hB1.trans (hb2.mono hB1.size))
        | (go_at_call 23; (with_reducible refine (HD.out _).mono ?_); rintro e w3 ⟨xa, ya, xc, yc, rfl, hP3, hb3⟩; have hB3 := hB2.trans (hb3.mono hB2.size); have HP3 := Lib.hid (Pr.grow hP3 ((Below.refl w3.heap.size w3).alloc (Nat.le_refl _) (.cells #[.slice xa q.funcs.length xc, .slice ya q.opts.length yc] 27)) (Nat.le_refl _)); have HB4 := Lib.hid (hB3.alloc hB3.size (.cells #[.slice xa q.funcs.length xc, .slice ya q.opts.length yc] 27)); clear hP3)
        | (go_at_call 21; (with_reducible refine (HEQ.out _ _ _ HP3.out).mono ?_); rintro e w5 ⟨rfl, hb5⟩; have HB5 := Lib.hid (HB4.out.trans (hb5.mono HB4.out.size))))
      go_ret
      exact ⟨rfl, HB5.out⟩
    · have hfb : (((f : Nat) : Int) == 0) = false := by simp; omega
      clear hf
      go_enter Try.func8, Try.ntmps8
      go_wp2_with (first
        | (go_at_call 10; (with_reducible refine HS.out.mono ?_); rintro e w1 ⟨rfl, hb1⟩; have hB1 := hA.trans (hb1.mono hA.size); have oP1 := oP.below hb1; have k0 := oP1.cell 0; have k1 := oP1.cell 1; simp at k0 k1)
        | (go_at_call 21; (with_reducible refine (HEN.out _ hB1).mono ?_); rintro e w2 ⟨rfl, hb2⟩; have hB2 := hB1.trans (hb2.mono hB1.size))
        | (go_at_call 23; (with_reducible refine (HD.out _).mono ?_); rintro e w3 ⟨xa, ya, xc, yc, rfl, hP3, hb3⟩; have hB3 := hB2.trans (hb3.mono hB2.size); have HB4 := Lib.hid (hB3.alloc hB3.size (.cells #[.slice xa q.funcs.length xc, .slice ya q.opts.length yc] 27)); clear hP3))
      go_ret
      exact ⟨rfl, HB4.out⟩
  · have hc0 : (check p).1 = 0 := by rw [hgood]
    have hdp : dec (loadP p) = (p, 0, 0) := by
      have := dec_enc HI.out hc0 []
      rw [List.append_nil, if_pos rfl] at this
      exact this
    have hll := loadP_len (check_pok HI.out hc0)
    have HE := Lib.hid (show encP p = (loadP p, 0) by unfold encP; rw [if_pos hc0])
    have HDP := Lib.hid (fun W => decode_at (loadP p) p 0 0 hdp W (by omega))
    rw [HE.out] at HEN
    simp only at HEN
    clear hgood hc0 hdp hll
    generalize loadP p = lp at *
    by_cases hf : f = 0
    · subst hf
      obtain ⟨hq, heq⟩ := HFQ.out rfl
      have HEQ := Lib.hid (fun fv2 ov2 W (h : Pr W.heap.size W fv2 ov2 q) => encode_any fv2 ov2 q W h hq)
      rw [heq] at HEQ
      simp only at HEQ
      clear heq hq
      go_enter Try.func8, Try.ntmps8
      go_wp2_with (first
        | (go_at_call 10; (with_reducible refine HS.out.mono ?_); rintro e w1 ⟨rfl, hb1⟩; have hB1 := hA.trans (hb1.mono hA.size); have oP1 := oP.below hb1; have k0 := oP1.cell 0; have k1 := oP1.cell 1; simp at k0 k1; have tk := trivial)
        | (go_at_call 21; have _t := tk; clear _t tk; (with_reducible refine (HEN.out _ hB1).mono ?_); rintro e w2 ⟨rfl, hb2⟩; have hB2 := hB1.trans (hb2.mono hB1.size); have oP2 := oP1.below hb2; have tk2 := trivial)
        | (go_at_call 23; have _t := tk2; clear _t tk2; (with_reducible refine (HDP.out _).mono ?_); rintro e w3 ⟨xa, ya, xc, yc, rfl, hP3, hb3⟩; have hB3 := hB2.trans (hb3.mono hB2.size); have oP3 := (oP2.below hb3).alloc (.cells #[.slice xa p.funcs.length xc, .slice ya p.opts.length yc] 27); have HP3 := Lib.hid (Pr.grow hP3 ((Below.refl w3.heap.size w3).alloc (Nat.le_refl _) (.cells #[.slice xa p.funcs.length xc, .slice ya p.opts.length yc] 27)) (Nat.le_refl _)); have HB4 := Lib.hid (hB3.alloc hB3.size (.cells #[.slice xa p.funcs.length xc, .slice ya p.opts.length yc] 27)); have i0 := oP3.cell 0; have i1 := oP3.cell 1; simp at i0 i1; have hz3 : w.heap.size < w3.heap.size := (oP2.below hb3).lt; have j0 := (oP2.below hb3).cell 0; have j1 := (oP2.below hb3).cell 1; simp at j0 j1; clear hP3)
        | (go_at_call 18; (with_reducible refine (HSA.out _ _ _ _ _ HI.out _ HP3.out (HP.out _ HB4.out)).mono ?_); rintro e w5 ⟨rfl, hb5⟩; have HB5 := Lib.hid (HB4.out.trans (hb5.mono HB4.out.size)))
        | (go_at_call 23; (with_reducible refine (HD.out _).mono ?_); rintro e w6 ⟨za, ta, zc, tc, rfl, hP6, hb6⟩; have hB6 := HB5.out.trans (hb6.mono HB5.out.size); have HP6 := Lib.hid (Pr.grow hP6 ((Below.refl w6.heap.size w6).alloc (Nat.le_refl _) (.cells #[.slice za q.funcs.length zc, .slice ta q.opts.length tc] 27)) (Nat.le_refl _)); have HB7 := Lib.hid (hB6.alloc hB6.size (.cells #[.slice za q.funcs.length zc, .slice ta q.opts.length tc] 27)); clear hP6)
        | (go_at_call 21; (with_reducible refine (HEQ.out _ _ _ HP6.out).mono ?_); rintro e w8 ⟨rfl, hb8⟩; have HB8 := Lib.hid (HB7.out.trans (hb8.mono HB7.out.size))))
      go_ret
      exact ⟨rfl, HB8.out⟩
    · have hfb : (((f : Nat) : Int) == 0) = false := by simp; omega
      clear hf
      go_enter Try.func8, Try.ntmps8
      go_wp2_with (first
        | (go_at_call 10; (with_reducible refine HS.out.mono ?_); rintro e w1 ⟨rfl, hb1⟩; have hB1 := hA.trans (hb1.mono hA.size); have oP1 := oP.below hb1; have k0 := oP1.cell 0; have k1 := oP1.cell 1; simp at k0 k1)
        | (go_at_call 21; (with_reducible refine (HEN.out _ hB1).mono ?_); rintro e w2 ⟨rfl, hb2⟩; have hB2 := hB1.trans (hb2.mono hB1.size); have oP2 := oP1.below hb2; have tk2 := trivial)
        | (go_at_call 23; have _t := tk2; clear _t tk2; (with_reducible refine (HDP.out _).mono ?_); rintro e w3 ⟨xa, ya, xc, yc, rfl, hP3, hb3⟩; have hB3 := hB2.trans (hb3.mono hB2.size); have oP3 := (oP2.below hb3).alloc (.cells #[.slice xa p.funcs.length xc, .slice ya p.opts.length yc] 27); have HP3 := Lib.hid (Pr.grow hP3 ((Below.refl w3.heap.size w3).alloc (Nat.le_refl _) (.cells #[.slice xa p.funcs.length xc, .slice ya p.opts.length yc] 27)) (Nat.le_refl _)); have HB4 := Lib.hid (hB3.alloc hB3.size (.cells #[.slice xa p.funcs.length xc, .slice ya p.opts.length yc] 27)); have i0 := oP3.cell 0; have i1 := oP3.cell 1; simp at i0 i1; have hz3 : w.heap.size < w3.heap.size := (oP2.below hb3).lt; have j0 := (oP2.below hb3).cell 0; have j1 := (oP2.below hb3).cell 1; simp at j0 j1; clear hP3)
        | (go_at_call 18; (with_reducible refine (HSA.out _ _ _ _ _ HI.out _ HP3.out (HP.out _ HB4.out)).mono ?_); rintro e w5 ⟨rfl, hb5⟩; have HB5 := Lib.hid (HB4.out.trans (hb5.mono HB4.out.size)))
        | (go_at_call 23; (with_reducible refine (HD.out _).mono ?_); rintro e w6 ⟨za, ta, zc, tc, rfl, hP6, hb6⟩; have hB6 := HB5.out.trans (hb6.mono HB5.out.size); have HB7 := Lib.hid (hB6.alloc hB6.size (.cells #[.slice za q.funcs.length zc, .slice ta q.opts.length tc] 27)); clear hP6))
      go_ret
      exact ⟨rfl, HB7.out⟩
end Co
end Go.Proofs.Ytfkfckohajpcfaa
