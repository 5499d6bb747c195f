/-
  The walk of the law FrameRows.
-/
import Derived.Test.YtgbfaabidplajaaFrameRowsB
namespace Go.Proofs.Ytgbfaabidplajaa
open Go.RowKit Go.Shelf
set_option linter.unusedSimpArgs false
set_option linter.unusedVariables false

attribute [local go_sem] Oper.semAt_some

set_option maxRecDepth 100000 in
set_option maxHeartbeats 4000000 in
theorem frameRows_walk (a : Option Addr) (cap b off : Nat) (L : List Fr.Fm) (r : ByteArray) (w : World) (ha : 0 < L.length → a = some ⟨b, off, none⟩ ∧ b < w.heap.size)
    (hc : ∀ i (h : i < L.length), w.cell? ⟨b, off + i * 2, none⟩ = some (.int .u8 (L[i].1.toNat : Int)) ∧ w.cell? ⟨b, off + i * 2 + 1, none⟩ = some (.string (Cd.bs L[i].2)))
    (hB : Fr.bulkF L ≤ 1048576) (hr : r.size ≤ 1048576) :
    Calls Try.prog 8 #[.slice a L.length cap, .string r] w fun e w' => e = .returned (.bool true) ∧ Below w.heap.size w w' := by
  obtain ⟨R, rfl⟩ : ∃ l, r = Cd.bs l := ⟨r.data.toList, (Lib.mk_data r).symm⟩
  have hR : R.length ≤ 1048576 := hr
  have hL := Fr.bulkF_len L
  obtain ⟨i0, hi, hz0, hz1, hz2⟩ := info_parts info_Frame
  refine (callsIn_wide (n := 12)).1 ?_
  refine callsIn_of_wp_marks Try.func8 rfl trivial ?_ rfl
  refine wpIn_wide.2 ?_
  simp only [Try.ntmps8, List.size_toArray, List.length_cons, List.length_nil, Nat.reduceAdd, Nat.reduceSub, Array.replicate_succ, Array.replicate_zero, List.push_toArray, List.append_toArray, List.nil_append, List.cons_append]
  go_wp2_with (go_at_call 15; refine (shown_any _).mono ?_; rintro e wa ⟨rfl, ha1⟩)
  have hbR : Boxed wa w.heap.size 4 (.bool false) := (Sq.Kept.of_below (T := fun _ => True) ha1).boxed trivial (Boxed.new w _ _)
  have hbw : Below w.heap.size w wa := ((Below.refl _ w).alloc (Nat.le_refl _) _).trans (ha1.mono (by simp))
  have hsa := ha1.size
  simp at hsa
  clear ha1
  go_loopw [6, 8] (fun s i wr => ∃ (k : Nat) (v : Value), k ≤ L.length ∧ i = .int .i64 k ∧ s = .string (Cd.bs (Fr.rowB (L.take k))) ∧ Boxed wr wa.heap.size 48 v ∧ wr.ownsRow wa.heap.size 23 2 v (Fr.kept (L.take k)).length (fmCells (Fr.kept (L.take k))) ∧ Boxed wr w.heap.size 4 (.bool false) ∧ Below w.heap.size w wr)
    (fun _ i _ => L.length - (intOf i).toNat)
  case atStart => exact ⟨0, _, Nat.zero_le _, rfl, rfl, Boxed.new wa _ _, World.ownsRow_nil _ _ _ _, hbR.alloc _, hbw.alloc (by omega) _⟩
  case round =>
    obtain ⟨k, v, hk, rfl, rfl, hbv, hown, hbr, hbel⟩ := hrel
    by_cases hlt : k < L.length
    · have hcx := hc k hlt
      obtain ⟨rfl, hbl⟩ := ha (by omega)
      have hTs := List.take_succ_eq_append_getElem hlt
      have hmem := Fr.bulkF_mem (List.getElem_mem hlt)
      generalize hfx : L[k] = f at hcx hTs hmem
      have hc0 : wr.cell? ⟨b, off + k * 2, none⟩ = some (.int .u8 (f.1.toNat : Int)) := (hbel.cell (p := ⟨b, off + k * 2, none⟩) hbl).trans hcx.1
      have hc1 : wr.cell? ⟨b, off + k * 2 + 1, none⟩ = some (.string (Cd.bs f.2)) := (hbel.cell (p := ⟨b, off + k * 2 + 1, none⟩) hbl).trans hcx.2
      have hlenB := Fr.rowB_len (L.take k)
      have hlenT := Fr.bulkF_take L k
      have hput := Fr.put_len15 f
      have hkl := Fr.kept_len (L.take k)
      have hbs := hbel.size
      rw [List.length_take] at hkl
      have p2 := fun W => framePutc_any (f.1.toNat : Int) f.1 rfl f.2 W (by omega)
      have hrow2 := Fr.rowB_snoc (L.take k) f
      clear hcx
      by_cases hok : Fr.okF f = true
      · have hkp := Fr.kept_ok (L.take k) hok
        obtain ⟨o1, o2⟩ := Fr.okF_iff.1 hok
        have h2 : (Fr.put f.1 f.2).2 = 0 := by rw [Fr.put_ok o1 o2]
        rw [h2] at p2
        generalize hPB : (Fr.put f.1 f.2).1 = PB at p2 hput hrow2
        have P2 := Lib.hid p2
        have HT := Lib.hid hTs
        have HR := Lib.hid hrow2
        have HKP := Lib.hid hkp
        have HFX := Lib.hid hfx
        clear p2 hTs hrow2 hkp h2 hPB hfx hok o1 o2
        have hi1 : (0 : Int) ≤ (k : Int) ∧ (k : Int) < (L.length : Int) := by omega
        go_wp2_with (go_at_call 10; refine (P2.out _).mono ?_; rintro e w1 ⟨rfl, hb1⟩; have hbv1 : Boxed w1 wa.heap.size 48 v := (Sq.Kept.of_below (T := fun _ => True) hb1).boxed trivial hbv; have hbr1 : Boxed w1 w.heap.size 4 (.bool false) := (Sq.Kept.of_below (T := fun _ => True) hb1).boxed trivial hbr; have hown1 := own_below hown hb1; have hs1 := hb1.size; have hcv1 := hbv1.cell; have hfv1 := hbv1.frozen; have hc01 := (hb1.cell (p := ⟨b, off + k * 2, none⟩) (by show b < _; omega)).trans hc0; have hc11 := (hb1.cell (p := ⟨b, off + k * 2 + 1, none⟩) (by show b < _; omega)).trans hc1)
        obtain ⟨ao, cap1, hv1, hg1⟩ := Sq.row_cases hown1
        subst hv1
        have hbo1 : w1.cell? ⟨b, off + k * 2, none⟩ = some (.int .u8 (f.1.toNat : Int)) := hc01
        have hne : ∀ x : Nat, x < wa.heap.size → (Value.slice ao (Fr.kept (L.take k)).length cap1).ownBlock ≠ some x := fun x hx e => by
          rcases hown1.2 with ⟨h1, _⟩ | ⟨g', cap', cur, h1, h2, _⟩
          · rw [h1] at e; simp [Value.ownBlock] at e
          · rw [h1] at e
            have : g' = x := by simpa [Value.ownBlock] using e
            omega
        have hnB : (Value.slice ao (Fr.kept (L.take k)).length cap1).ownBlock ≠ some wa.heap.size := fun e => (hbv1.not_row (by decide) hown1) e.symm
        have hlv1 := hbv1.lt
        refine wp_region_noPanic ?_
        go_region_law
          ((refine step_append_lies _ (by rfl) _ _ _ (by rfl) wa.heap.size 23 i0 _ 2 24 Try.underlying48 hi hz0 hz1 hz2 rfl (by omega) (Value.slice ao (Fr.kept (L.take k)).length cap1) (Fr.kept (L.take k)).length _ (by rfl) ((hown1.alloc _).drew)
              ⟨w1.heap.size, 0, none⟩ 1 1 [.int .u8 (f.1.toNat : Int), .string (Cd.bs f.2)] (by rfl) (by rfl) (World.news_of_block (cs := #[.int .u8 (f.1.toNat : Int), .string (Cd.bs f.2)]) (t := 23) (fr := (0, 0)) (heap_alloc_new w1 _)) (by simp [Value.oneCell'])
              (by omega) (by unfold maxLen; omega) (by omega) (by simp; omega) (w1.heap.size + 1) (by simp) ?_; intro gg cap2 w2 hown2 hgrow hat hlt2; have hbv2 : Boxed w2 wa.heap.size 48 (.slice ao (Fr.kept (L.take k)).length cap1) := Boxed.kept (W := (w1.alloc (.cells #[.int .u8 (f.1.toNat : Int), .string (Cd.bs f.2)] 23)).drew) (hbv1.alloc _) hgrow (Ne.symm hnB); have hfz2 := hbv2.frozen; have hcz2 := hbv2.cell))
        all_goals (refine NoPanic.normal ?_; go_wp2)
        all_goals
          have hbw1 : Below w.heap.size w w1 := hbel.trans (hb1.mono hbs)
          have hbw2 : Below w.heap.size w w2 := ((hbw1.alloc hbw1.size (.cells #[.int .u8 (f.1.toNat : Int), .string (Cd.bs f.2)] 23)).drew).grown hgrow (by simp; omega) (fun x hx => by
            rcases hown1.2 with ⟨h1, _⟩ | ⟨g', cap', cur, h1, h2, _⟩
            · rw [h1] at hx; simp [Value.ownBlock] at hx
            · rw [h1] at hx
              have : g' = x := by simpa [Value.ownBlock] using hx
              omega)
          have hbr2 : Boxed w2 w.heap.size 4 (.bool false) := Boxed.kept (W := (w1.alloc (.cells #[.int .u8 (f.1.toNat : Int), .string (Cd.bs f.2)] 23)).drew) (hbr1.alloc _) hgrow (Ne.symm (hne _ (by omega)))
          go_roundw
          case rel => exact ⟨k + 1, _, by omega, by go_num, by rw [ByteArray.mk_append_mk, HT.out, HR.out], hbv2.set _, by
            rw [HT.out, HKP.out, List.length_append, fmCells_snoc]
            exact hown2.kept (grownBy_setCell' w2 wa.heap.size _) (.inr (hbv2.not_row (by decide) hown2).symm), hbr2.other (by omega) _, hbw2.setCell (p := ⟨wa.heap.size, 0, none⟩) (by simp; omega) _⟩
          case measure => simp [intOf]; omega
      · have hkp := Fr.kept_bad (L.take k) hok
        have hpb := Fr.put_bad hok
        rw [hpb] at p2 hrow2
        rw [List.append_nil] at hrow2
        have P2 := Lib.hid p2
        have HT := Lib.hid hTs
        have HR := Lib.hid hrow2
        have HKP := Lib.hid hkp
        have hbad : ((f.1.toNat : Int) == 0) = true ∨ (((f.1.toNat : Int) == 0) = false ∧ (262144 : Int) < f.2.length) := by
          rw [Fr.okF_iff] at hok
          by_cases h0 : f.1.toNat = 0
          · exact .inl (by simp [h0])
          · exact .inr ⟨by simp; omega, by omega⟩
        clear p2 hTs hrow2 hkp hpb hfx hok hput
        have hi1 : (0 : Int) ≤ (k : Int) ∧ (k : Int) < (L.length : Int) := by omega
        rcases hbad with hb0 | ⟨hb0, hlong⟩
        all_goals
          have hb0' : (((f.1.toNat : Int) != 0) = !((f.1.toNat : Int) == 0)) := rfl
          rw [hb0] at hb0'
          simp only [Bool.not_true, Bool.not_false] at hb0'
          go_wp2_with (go_at_call 10; refine (P2.out _).mono ?_; rintro e w1 ⟨rfl, hb1⟩; have hbv1 : Boxed w1 wa.heap.size 48 v := (Sq.Kept.of_below (T := fun _ => True) hb1).boxed trivial hbv; have hbr1 : Boxed w1 w.heap.size 4 (.bool false) := (Sq.Kept.of_below (T := fun _ => True) hb1).boxed trivial hbr; have hown1 := own_below hown hb1; have hs1 := hb1.size; have hc01 := (hb1.cell (p := ⟨b, off + k * 2, none⟩) (by show b < _; omega)).trans hc0; have hc11 := (hb1.cell (p := ⟨b, off + k * 2 + 1, none⟩) (by show b < _; omega)).trans hc1)
          go_roundw
          case rel => exact ⟨k + 1, _, by omega, by go_num, by rw [HT.out, HR.out], hbv1, by rw [HT.out, HKP.out]; exact hown1, hbr1, hbel.trans (hb1.mono hbs)⟩
          case measure => simp [intOf]; omega
    · obtain rfl : k = L.length := by omega
      rw [List.take_length] at hown
      have hlenB := Fr.rowB_len L
      have hkl := Fr.kept_len L
      have hlenl : (Fr.rowB L ++ R).length ≤ 16777216 := by rw [List.length_append]; omega
      have p4 := Lib.hid fun W => end_any (Fr.rowB L ++ R) W (by omega)
      rw [List.take_length]
      have happ : Cd.bs (Fr.rowB L) ++ Cd.bs R = Cd.bs (Fr.rowB L ++ R) := by rw [ByteArray.mk_append_mk]
      have hbvl := hbv.lt
      have hbs := hbel.size
      obtain ⟨q1, q2, q3, q4⟩ := Fr.all_rows L R
      have hAl := all_few (Fr.rowB L ++ R) 0 (Nat.zero_le _)
      have hAl2 : (Fr.all (Fr.rowB L ++ R)).1.length ≤ 16777216 := by show (Fr.allGo (Fr.rowB L ++ R) 0).1.length ≤ _; omega
      generalize hK : Fr.kept L = KL at *
      generalize hAA : Fr.all (Fr.rowB L ++ R) = AA at *
      obtain ⟨ao, cap1, hv1, hg1⟩ := Sq.row_cases hown
      subst hv1
      have HQ4 := Lib.hid q4
      have HQ2 := Lib.hid q2
      have HAA := Lib.hid hAA
      clear q4 q2 hAA hK
      go_wp2_with (go_at_call 17; refine (callsIn_wide.1 (all_in 3 _ _)).mono ?_; rintro e w' ⟨rfl, rfl⟩)
      have HAPP := Lib.hid happ
      clear happ
      obtain ⟨X0, hX0⟩ : ∃ X0, (wr.alloc (.cells #[.int .i64 0] 3)).alloc (.cells #[.string (Cd.bs (Fr.rowB L ++ R))] 9) = X0 := ⟨_, rfl⟩
      have hsX : X0.heap.size = wr.heap.size + 2 := by rw [← hX0]; simp
      have bN0 : Boxed X0 wr.heap.size 3 (.int .i64 0) := by rw [← hX0]; exact (Boxed.new wr _ _).alloc _
      have bS0 : Boxed X0 (wr.heap.size + 1) 9 (.string (Cd.bs (Fr.rowB L ++ R))) := by
        rw [← hX0]; have := Boxed.new (wr.alloc (.cells #[.int .i64 0] 3)) 9 (.string (Cd.bs (Fr.rowB L ++ R))); rwa [World.size_alloc] at this
      have hKX : Sq.Kept (fun _ => True) wr X0 := by rw [← hX0]; exact (Sq.Kept.alloc _ _ _).trans (Sq.Kept.alloc _ _ _)
      have bP0 := hKX.boxed trivial hbv
      have bR0 := hKX.boxed trivial hbr
      have row0 := Sq.row_kept hown hKX (fun _ _ => trivial)
      have hgN : ∀ g, (Value.slice ao KL.length cap1).ownBlock = some g → g < wr.heap.size := fun g hg' => by
        rcases hown.2 with ⟨h1, _⟩ | ⟨g', cap', cur, h1, _, h3, _⟩
        · rw [h1] at hg'; simp [Value.ownBlock] at hg'
        · rw [h1] at hg'
          obtain rfl : g' = g := by simpa [Value.ownBlock] using hg'
          exact (Array.getElem?_eq_some_iff.1 h3).1
      rw [hX0]
      clear hX0
      refine (wpIn_wide (n := 12)).1 ?_
      refine Sq.wp_range rfl (by omega) (gf := 25) (lb := #[.pointer (some ⟨wr.heap.size + 1, 0, none⟩)]) rfl trivial (enters_of Try.func25 (by kernel_rfl) rfl)
        (all1_seq 11 (by omega) (Fr.rowB L ++ R) (by omega) (wr.heap.size + 1) X0 bS0) (by rintro b rfl; omega) (fun _ => rfl)
        (rwI wr.heap.size X0) (fun _ _ _ _ => False)
        (fun a' x R' pre X => (rwI wr.heap.size X0 R' pre X) ∧ ∃ Bf, (X.heap[Bf]? = some (.cells #[.int .u8 (x.2.1.toNat : Int), .string (Cd.bs x.2.2)] 23 (0, 0)) ∧ ¬ R' Bf) ∧
          a' = { tmps := #[.slice a L.length cap, .string (Cd.bs R), undef, undef, .pointer (some ⟨w.heap.size, 0, none⟩), .bool true, .string (Cd.bs (Fr.rowB L)), .pointer (some ⟨wa.heap.size, 0, none⟩), .int .i64 (L.length : Int), u9, u10, .pointer (some ⟨wr.heap.size, 0, none⟩), .int .i64 (x.1 : Int), .pointer (some ⟨Bf, 0, none⟩), undef, .bool true, .bool true, .bool false, .int .i64 (L.length : Int), .slice a L.length cap, .int .i64 (L.length : Int), .bool false, u22, u23, u24, u25, u26, u27, u28, u29, u30, u31, u32, u33, u34, u35, u36, u37, u38, u39, u40, u41, u42, u43, u44, u45, u46, u47, u48, u49, u50, u51, u52, u53, u54, u55, u56, u57, u58, .string (Cd.bs (Fr.rowB L)), .string (Cd.bs R), .string (Cd.bs (Fr.rowB L ++ R)), .func (.func 25) #[] #[.pointer (some ⟨wr.heap.size + 1, 0, none⟩)], .int .i64 (x.1 : Int), .agg #[.int .u8 (x.2.1.toNat : Int), .string (Cd.bs x.2.2)], undef, undef, undef, undef, undef, undef, undef, undef, undef, undef, undef, undef, undef, undef, undef, undef, undef, undef, undef, undef, undef, undef, undef, undef, undef, undef, undef, undef, undef, undef, undef, undef, undef, undef, undef, undef, undef, undef, undef, undef, undef, undef, undef, undef, undef, undef, undef, undef], defers := [] })
        (rwI_steady _ _) (fun c => Sq.Steady.no)
        (fun a' x => (rwI_steady _ _).and (Sq.Steady.ex fun Bf => (Sq.Steady.obj _ _).and (fun _ _ _ _ _ hs _ => hs)))
        ⟨⟨bN0, fun h => h⟩, Sq.Kept.refl _ _, fun _ _ _ h => h⟩ ?assign ?body ?done ?stop
      case assign =>
        rintro lr R' pre x X hbd hsp ⟨⟨hb, hnb⟩, hk, hnk⟩
        gi_wp2
        refine ⟨Sq.Kept.alloc _ _ _, ⟨⟨hb.alloc _, hnb⟩, hk.trans (Sq.Kept.alloc _ _ _), hnk⟩, X.heap.size, ⟨World.alloc_heap_new X _, fun h => by have := hbd _ h; omega⟩, ?_⟩
        first | rfl | trivial
      case body =>
        rintro lr R' pre x a' X hRl hrec hbd hsp ⟨hI, Bf, ⟨hf, hnf⟩, rfl⟩
        have hcf0 : X.cell? ⟨Bf, 0, none⟩ = some (.int .u8 (x.2.1.toNat : Int)) := by simp [World.cell?, hf]
        have hcf1 : X.cell? ⟨Bf, 1, none⟩ = some (.string (Cd.bs x.2.2)) := by simp [World.cell?, hf]
        have hk := hI.2.1
        have hcP := (hk.boxed (by omega) bP0).cell
        have rowX := Sq.row_kept row0 hk (fun g hg => by have := hgN g hg; omega)
        rw [HAA.out] at hsp
        obtain ⟨rr, hrr⟩ := hsp
        have hlen : pre.length < AA.1.length := by rw [← hrr]; simp
        have hxi : AA.1[pre.length] = x := by simp [← hrr]
        by_cases hlt : pre.length < KL.length
        · have hx2 := HQ2.out pre.length hlt hlen
          rw [hxi] at hx2
          obtain ⟨ao', cap', hv, hg⟩ := Sq.row_cases rowX
          obtain ⟨g, rfl, hg1, hg2⟩ := hg (by omega)
          simp only [Value.slice.injEq, true_and] at hv
          obtain ⟨rfl, rfl⟩ := hv
          have cells := fmCells_get KL pre.length hlt
          rw [← hx2] at cells
          exact rows_body1 lr R' pre x X X0 wr.heap.size wa.heap.size Bf _ KL.length cap1 hI (by omega) (by omega) hcf0 hcf1 hcP (by omega) g rfl hlt
            ((rowX.cellAt (pre.length * 2) (by omega)).trans cells.1) ((rowX.cellAt (pre.length * 2 + 1) (by omega)).trans cells.2)
        · exact rows_body2 lr R' pre x X X0 wr.heap.size wa.heap.size Bf ao KL.length cap1 hI (by omega) (by omega) hcf0 hcf1 hcP (by omega) (by omega)
      case done =>
        rintro D R' xs X hD hRD rfl ⟨⟨hb, hnb⟩, hk, hnk⟩ hdf
        rw [HAA.out] at hb
        have hbP := hk.boxed (by omega) bP0
        have hbR2 := hk.boxed (by omega) bR0
        have hcP := hbP.cell
        have hcR := hbR2.cell
        have hfR := hbR2.frozen
        have hcn := hb.cell
        have happ := HAPP.out
        have hszD : w.heap.size < D := by omega
        have hq1 : KL.length ≤ AA.1.length := q1
        have hq3 : (Fr.rowB L).length ≤ AA.2 := q3
        go_wp2_with (go_at_call 18; refine (p4.out _).mono ?_; rintro e we ⟨rfl, he⟩; have hkE : Sq.Kept (fun _ => True) X we := Sq.Kept.of_below he; have hcP2 := (hkE.boxed trivial hbP).cell; have hcR2 := (hkE.boxed trivial hbR2).cell; have hfR2 := (hkE.boxed trivial hbR2).frozen; have hcn2 := (hkE.boxed trivial hb).cell)
        all_goals first
          | (exfalso
             have h0 : R = [] := by assumption
             have h1 : ¬ ((AA.2 : Int) = ((Fr.rowB L).length : Int)) := by assumption
             exact h1 (by rw [(HQ4.out h0).1]))
          | (have h0 : R = [] := by assumption
             have hv : (((AA.1.length : Nat) : Int) == ((KL.length : Nat) : Int)) = true := by rw [(HQ4.out h0).2]; simp
             rw [hv])
          | skip
        all_goals
          refine Sq.leaves_marks [D] _ (by simp) (fun E hE => ?_) (fun W' hk' => ⟨.bool true, ?_, rfl, ?_⟩)
          · obtain rfl : E = D := by simpa using hE
            exact (Below.heap_setCell _ _ _ _ (by simp; omega)).trans ((hkE.block E trivial (Array.getElem?_eq_some_iff.1 hdf).1).trans hdf)
          · have c4 : W'.cell? ⟨w.heap.size, 0, none⟩ = some (.bool true) := hk'.cell (by simp; omega) ((hkE.boxed trivial hbR2).set _).cell
            simp [results, Try.results8, go_sem, c4]
          · have k0 : Sq.Kept (fun b => b < w.heap.size) w wr := ⟨hbel.os, hbel.tape, hbel.output, hbel.size, fun k hk _ => hbel.block k hk⟩
            have k1 : Sq.Kept (fun b => b < w.heap.size) wr X := (hKX.less (fun _ _ _ => trivial)).trans (hk.less (fun b hb _ => by omega))
            have k2 : Sq.Kept (fun b => b < w.heap.size) X we := hkE.less (fun _ _ _ => trivial)
            have k3 : Sq.Kept (fun b => b < w.heap.size) we (we.setCell ⟨w.heap.size, 0, none⟩ (.bool true)) := Sq.Kept.setCell _ _ (by simp)
            exact ((((k0.trans k1).trans k2).trans k3).trans (hk'.less (fun b hb _ h => by simp at h; omega))).below (fun _ h => h) (Nat.le_refl _)
      case stop =>
        intro D R' c pre X _ _ _ h _
        exact h.elim
end Go.Proofs.Ytgbfaabidplajaa
