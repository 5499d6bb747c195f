/-
  The document's table of versions (tapestryref06.Table): Add of a version whose place is free.
-/
import Derived.Test.YtgfpkbdinfdkfaaMemAddR
namespace Go.Proofs.Ytgfpkbdinfdkfaa
open Go.RowKit
set_option linter.unusedSimpArgs false
set_option linter.unusedVariables false
namespace Mt
open Op (bytesLess)
open Vs (Vers At vcs)
theorem AdR.alloc {b : Nat} {lv hv : Value} {v : Ver} {w wr : World} (h : AdR b lv hv v w wr) (o : Go.Obj) : AdR b lv hv v w (wr.alloc o) := ⟨h.bel.alloc h.bel.size _, h.box.alloc _, h.tab.alloc _⟩
theorem AdR.grown {b : Nat} {lv hv : Value} {v : Ver} {w wr wr' : World} {row : Option Nat} (h : AdR b lv hv v w wr) (hg : wr.grownBy wr' row) (hr : ∀ g, row = some g → w.heap.size + 1 ≤ g) (hb : b < w.heap.size) : AdR b lv hv v w wr' :=
  ⟨h.bel.grown hg h.bel.size (fun k hk => by have := hr k hk; omega), h.box.grown hg (fun e => by have := hr _ e; omega), h.tab.grown hg (fun e => by have := hr _ e; omega)⟩
theorem vcs_len (L : List Ver) : (vcs L).length = L.length * 4 := by
  unfold vcs
  induction L with
  | nil => rfl
  | cons x r ih => rw [List.map_cons, List.flatten_cons, List.length_append, ih, List.length_cons]; simp [Vs.vC]; omega
theorem vcs_one {L : List Ver} : ∀ u ∈ vcs L, u.oneCell' = true := by
  intro u hu
  unfold vcs at hu
  rw [List.mem_flatten] at hu
  obtain ⟨l, hl, hu⟩ := hu
  obtain ⟨x, hx, rfl⟩ := List.mem_map.1 hl
  unfold Vs.vC at hu
  simp at hu
  rcases hu with rfl | rfl | rfl | rfl <;> rfl
theorem hcs_one {t : Tab} : ∀ u ∈ hcs t, u.oneCell' = true := by
  intro u hu
  unfold hcs at hu
  obtain ⟨x, hx, rfl⟩ := List.mem_map.1 hu
  rfl
theorem vcs_append (a b : List Ver) : vcs (a ++ b) = vcs a ++ vcs b := by unfold vcs; rw [List.map_append, List.flatten_append]
theorem add_addr (g o j : Nat) : (⟨g, o, none⟩ : Addr).add j = ⟨g, o + j, none⟩ := by unfold Addr.add; split <;> simp_all
/-- the cells of a part of a row -/
theorem part_cells {w W : World} {B0 : Nat} {e : TypeId} {size g n cap : Nat} {xs ys zs us : List Value} (h : w.ownsRow B0 e size (.slice (some ⟨g, 0, none⟩) n cap) n xs) (hx : xs = ys ++ zs ++ us) (hl : xs.length = n * size) (hb : Below w.heap.size w W) :
    ∀ j u, zs[j]? = some u → W.cell? ((⟨g, ys.length, none⟩ : Addr).add j) = some u := by
  intro j u hj
  have hg : g < w.heap.size := (Ob.row_lt h (g := g) rfl).2
  rw [add_addr, hb.cell (p := ⟨g, ys.length + j, none⟩) hg]
  have hjl : j < zs.length := (List.getElem?_eq_some_iff.1 hj).1
  have hlen := congrArg List.length hx
  rw [List.length_append, List.length_append] at hlen
  rw [h.cellAt (ys.length + j) (by omega), hx, List.getElem?_append_left (by rw [List.length_append]; omega), List.getElem?_append_right (by omega), Nat.add_sub_cancel_left]
  exact hj
/-- what Add of a new one does -/
def AddedR (B0 b : Nat) (S : Sq.Blocks) (t : Tab) (v : Ver) (h : Nat) (w : World) (e : Ending) (w' : World) : Prop :=
  e = .returned (.int .i64 0) ∧ ∃ lv hv S', RTabO B0 b S' lv hv (put t v h) w' ∧ Sq.Step S S' w w'
theorem put_vers (t : Tab) (v : Ver) (h : Nat) : vcs (vers (put t v h)) = vcs ((vers t).take (spot t v)) ++ [.string (Cd.bs v.key), .int .u64 v.seq, .bool v.del, .string (Cd.bs v.val)] ++ vcs ((vers t).drop (spot t v)) := by
  rw [vers_put, show (vers t).take (spot t v) ++ v :: (vers t).drop (spot t v) = ((vers t).take (spot t v) ++ [v]) ++ (vers t).drop (spot t v) by simp, vcs_append, Vs.vcs_snoc]
theorem put_hcs (t : Tab) (v : Ver) (h : Nat) : hcs (put t v h) = (hcs t).take (spot t v) ++ [.int .i64 (h : Int)] ++ (hcs t).drop (spot t v) := by
  unfold hcs put
  rw [List.map_append, List.map_cons, List.map_take, List.map_drop]
  simp
theorem row_cap {w : World} {base size g n cap : Nat} {e : TypeId} {xs : List Value} (h : w.ownsRow base e size (.slice (some ⟨g, 0, none⟩) n cap) n xs) : n ≤ cap ∧ cap ≤ maxLen := by
  rcases h.2 with ⟨h1, _⟩ | ⟨g', cap', cur, h1, _, _, h4, h5, _⟩
  · cases h1
  · cases h1
    exact ⟨h4, h5⟩
theorem row_len {w : World} {base size m m' : Nat} {e : TypeId} {v : Value} {xs : List Value} (h : w.ownsRow base e size v m xs) (he : m = m') : w.ownsRow base e size v m' xs := he ▸ h
theorem low_row {w : World} {base base' : Nat} {e : TypeId} {size : Nat} {v : Value} {m : Nat} {xs : List Value} (h : w.ownsRow base e size v m xs) (hb : base' ≤ base) : w.ownsRow base' e size v m xs := by
  rcases h with ⟨h0, h1 | ⟨g, cap, cur, h1, h2, h3, h4⟩⟩
  · exact ⟨h0, .inl h1⟩
  · exact ⟨h0, .inr ⟨g, cap, cur, h1, Nat.le_trans hb h2, h3, h4⟩⟩
/-- the table behind, with its new rows -/
theorem addR_done {B0 b : Nat} {S : Sq.Blocks} {lv hw l3 h3 : Value} {t : Tab} {v : Ver} {hh : Nat} {w W : World} (hT : RTabO B0 b S lv hw t w) (hJ : AdR b lv hw v w W)
    (hl : W.ownsRow (w.heap.size + 1) 33 4 l3 (t.length + 1) (vcs (vers (put t v hh)))) (hr : W.ownsRow (w.heap.size + 1) 3 1 h3 (t.length + 1) (hcs (put t v hh))) :
    ∃ lv' hv' S', RTabO B0 b S' lv' hv' (put t v hh) ((W.setCell ⟨b, 0, none⟩ l3).setCell ⟨b, 1, none⟩ h3) ∧ Sq.Step S S' w ((W.setCell ⟨b, 0, none⟩ l3).setCell ⟨b, 1, none⟩ h3) := by
  have hbb := hT.lo b hT.sb
  have hbl : b < w.heap.size := hbb.2
  have hbs := hJ.bel.size
  refine ⟨l3, h3, fun k => S k ∨ (l3.ownBlock = some k ∨ h3.ownBlock = some k), ⟨(hJ.tab.set 0 l3).set 1 h3, ?_, ?_, fun e => ?_, .inl hT.sb, fun g hg => .inr (.inl hg), fun g hg => .inr (.inr hg), ?_⟩, ?_, fun _ h => .inl h, ?_⟩
  · rw [put_len]
    have h1 : l3.ownBlock ≠ some b := fun e => by have := (Ob.row_lt hl e).1; omega
    exact low_row (Ob.row_other (Ob.row_other hl h1 _) h1 _) (by omega)
  · rw [put_len]
    have h1 : h3.ownBlock ≠ some b := fun e => by have := (Ob.row_lt hr e).1; omega
    exact low_row (Ob.row_other (Ob.row_other hr h1 _) h1 _) (by omega)
  · have := congrArg List.length e
    rw [put_len] at this
    simp at this
  · rintro k (h | h | h)
    · have := hT.lo k h
      exact ⟨this.1, by simp; omega⟩
    · have := Ob.row_lt hl h
      exact ⟨by omega, by simp; omega⟩
    · have := Ob.row_lt hr h
      exact ⟨by omega, by simp; omega⟩
  · refine ((Sq.Kept.of_below hJ.bel).trans (Sq.Kept.setCell _ _ (fun h => h hT.sb))).trans (Sq.Kept.setCell _ _ (fun h => h hT.sb))
  · rintro k (h | h | h)
    · exact .inl h
    · exact .inr (by have := (Ob.row_lt hl h).1; omega)
    · exact .inr (by have := (Ob.row_lt hr h).1; omega)

set_option maxRecDepth 100000 in
set_option maxHeartbeats 8000000 in
/-- the look of Add: up to the place; it is free -/
theorem addR_new {B0 b : Nat} {S : Sq.Blocks} {lv hw : Value} {t : Tab} (v : Ver) (hh : Nat) (w : World) (hT : RTabO B0 b S lv hw t w) (ho : Ordered t) (hI : ∀ x ∈ t, VerIn x.1) (hL : t.length ≤ 1073741824) (hv : VerIn v) (hm : mayB v = true) (hi : 1 ≤ hh ∧ hh ≤ 8) (hth : there t v = false) :
    Calls Try.prog 25 #[.pointer (some ⟨b, 0, none⟩), verV v, .int .i64 (hh : Int)] w (AddedR B0 b S t v hh w) := by
  have HM := Lib.hid (fun W => mayM_any v W hv)
  rw [hm] at HM
  have HLS := Lib.hid (fun (x : Ver) (hx : VerIn x) W => lessR_any x v W hx.wide hv.wide)
  have HSP := Lib.hid (spot_at v t)
  have hsl := spot_le t v
  have HPL := Lib.hid (fun (h : spot t v < t.length) W => (show Calls Try.prog 19 #[verV t[spot t v].1, verV v] W fun e w' => e = .returned (.bool false) ∧ Below W.heap.size W w' from by
    have hp : placeB t[spot t v].1 v = false := by
      rcases there_spot (v := v) ho with ⟨h1, _⟩ | ⟨h1, h2⟩
      · omega
      · rw [hth] at h2; exact h2.symm
    have := placeR_any t[spot t v].1 v W (hI _ (List.getElem_mem h)).wide hv.wide
    rwa [hp] at this))
  have HIN := Lib.hid (fun q (hq : q < t.length) => hI _ (List.getElem_mem hq))
  obtain ⟨a, cap, fb, fo, hlv, ha, hcells⟩ := hT.tab.vers
  have hvl : (vers t).length = t.length := by simp [vers]
  rw [hvl] at ha hlv
  have HC := Lib.hid (fun q (hq : q < t.length) => (show At w fb (fo + q * 4) t[q].1 from by have := hcells q (by omega); simpa [vers] using this))
  have hB0 : Below w.heap.size w (w.alloc (.cells #[.string (Cd.bs v.key), .int .u64 v.seq, .bool v.del, .string (Cd.bs v.val)] 33)) := (Below.refl _ _).alloc (Nat.le_refl _) _
  have I0 : AdR b lv hw v w (w.alloc (.cells #[.string (Cd.bs v.key), .int .u64 v.seq, .bool v.del, .string (Cd.bs v.val)] 33)) := ⟨hB0, Ob.Obj.new w _ _, hT.obj.alloc _⟩
  have HTT := Lib.hid hT
  have hbl := (hT.lo b hT.sb).2
  obtain ⟨hi1, hi2⟩ := hi
  have hj1 : (1 : Int) ≤ (hh : Int) := by omega
  have hj2 : (hh : Int) ≤ 8 := by omega
  have HVL := Lib.hid hlv
  have HO := Lib.hid ho
  clear hcells hT hvl hth hm hI ho hlv
  unfold verV at *
  show Calls _ _ _ _ (fun e w' => AddedR B0 b S t v hh w e w')
  have HADD : Hid (∀ e w', (e = .returned (.int .i64 0) ∧ ∃ lv hv S', RTabO B0 b S' lv hv (put t v hh) w' ∧ Sq.Step S S' w w') → AddedR B0 b S t v hh w e w') := Lib.hid (fun _ _ h => h)
  go_enter Try.func25, Try.ntmps25
  go_upto_block 0 with (go_at_call 13; (with_reducible refine (HM.out _).mono ?_); rintro e w1 ⟨rfl, hb1⟩; have I1 := I0.below hb1)
  go_cut [8] (fun i wx => i = .int .i64 (spot t v : Int) ∧ AdR b lv hw v w wx)
  case first =>
    go_wp2_with fail
    go_loopw [8] (fun i wr => ∃ q : Nat, q ≤ spot t v ∧ i = .int .i64 (q : Int) ∧ AdR b lv hw v w wr) (fun i _ => t.length - (intOf i).toNat)
    case atStart => exact ⟨0, Nat.zero_le _, rfl, I1⟩
    case round =>
      obtain ⟨q, hq, rfl, hIr⟩ := hrel
      obtain rfl := HVL.out
      have x0 := hIr.box.cell 0
      have x1 := hIr.box.cell 1
      have x2 := hIr.box.cell 2
      have x3 := hIr.box.cell 3
      have y0 := hIr.tab.cell 0
      simp at x0 x1 x2 x3 y0
      by_cases hlt : q < t.length
      · obtain ⟨rfl, hfb⟩ := ha (by omega)
        have hd2 : decide (q < t.length) = true := by simpa using hlt
        obtain ⟨e0, e1, e2, e3⟩ := (HC.out q hlt).below hIr.bel hfb
        have hi1 : (0 : Int) ≤ (q : Int) ∧ (q : Int) < (t.length : Int) := by omega
        obtain ⟨s1, s2⟩ := HSP.out q hlt hq
        have HLS1 := Lib.hid (HLS.out t[q].1 (HIN.out q hlt))
        cases hb : lessB t[q].1 v with
        | true =>
          have hq1 := s1 hb
          rw [hb] at HLS1
          clear s1 s2 hb
          generalize t[q] = x at *
          obtain ⟨⟨k, sq, d, val⟩, hx⟩ := x
          simp only at e0 e1 e2 e3 HLS1
          go_wp2_with fail
          go_still_tail 16, (by kernel_rfl)
          change wpList _ _ _ _ _ (World.drew _)
          have hI2 := hIr.drew 1
          go_wp2_with (go_at_call 20; (with_reducible refine (HLS1.out _).mono ?_); rintro e w3 ⟨rfl, hb3⟩; have hI3 := hI2.below hb3)
          go_roundw
          case rel => exact ⟨q + 1, hq1, by go_num, hI3⟩
          case measure => simp [intOf]; omega
        | false =>
          have HQS := Lib.hid (s2 hb)
          rw [hb] at HLS1
          clear s1 s2 hb
          generalize t[q] = x at *
          obtain ⟨⟨k, sq, d, val⟩, hx⟩ := x
          simp only at e0 e1 e2 e3 HLS1
          go_wp2_with fail
          go_still_tail 16, (by kernel_rfl)
          change wpList _ _ _ _ _ (World.drew _)
          have hI2 := hIr.drew 1
          go_wp2_with (go_at_call 20; (with_reducible refine (HLS1.out _).mono ?_); rintro e w3 ⟨rfl, hb3⟩; have hI3 := hI2.below hb3)
          go_meet
          exact ⟨by rw [HQS.out], hI3⟩
      · have hd2 : decide (q < t.length) = false := by simpa using hlt
        have HQS := Lib.hid (show q = spot t v by omega)
        go_wp2_with fail
        go_big_quiet (fail)
        (try go_wp2_with fail)
        have hI2 := hIr.drew nq
        go_meet
        exact ⟨by rw [HQS.out], hI2⟩
  obtain ⟨rfl, hI⟩ := hcut
  have HK := Lib.hid (put_vers t v hh)
  have HKH := Lib.hid (put_hcs t v hh)
  have x0 := hI.box.cell 0
  have x1 := hI.box.cell 1
  have x2 := hI.box.cell 2
  have x3 := hI.box.cell 3
  have y0 := hI.tab.cell 0
  simp at x0 x1 x2 x3 y0
  obtain ⟨i0, ii, iz0, iz1, iz2⟩ := info_parts info_Version
  obtain ⟨j0, ji, jz0, jz1, jz2⟩ := info_parts info_int6
  by_cases hk : spot t v < t.length
  · obtain rfl := HVL.out
    obtain ⟨rfl, hfb⟩ := ha (by omega)
    have hd2 : decide (spot t v < t.length) = true := by simpa using hk
    obtain ⟨e0, e1, e2, e3⟩ := (HC.out _ hk).below hI.bel hfb
    have hi1 : (0 : Int) ≤ (spot t v : Int) ∧ (spot t v : Int) < (t.length : Int) := by omega
    have HPL2 := Lib.hid (HPL.out hk)
    generalize hsq : spot t v = k at *
    have HSQ := Lib.hid hsq
    clear hsq
    obtain ⟨x, hx⟩ : ∃ x, x = t[k] := ⟨_, rfl⟩
    rw [← hx] at e0 e1 e2 e3 HPL2
    clear hx
    obtain ⟨⟨xk, xq, xd, xv⟩, xh⟩ := x
    simp only at e0 e1 e2 e3 HPL2
    go_wp2_with fail
    go_still_tail 8, (by kernel_rfl)
    change wpList _ _ _ _ _ (World.drew _)
    have hI2 := hI.drew 1
    go_upto_region 13 with (go_at_call 19; (with_reducible refine (HPL2.out _).mono ?_); rintro e w3 ⟨rfl, hb3⟩; have J0 := hI2.below hb3)
    have x00 := J0.box.cell 0
    have x01 := J0.box.cell 1
    have x02 := J0.box.cell 2
    have x03 := J0.box.cell 3
    have y00 := J0.tab.cell 0
    have y01 := J0.tab.cell 1
    have s0 := J0.bel.size
    have q0 := J0.box.lt
    simp at x00 x01 x02 x03 y00 y01
    obtain ⟨ao, cp, hv1, hao⟩ := Sq.row_cases HTT.out.rowL
    obtain ⟨g1, hg1, hg2, hg3⟩ := hao (by omega)
    simp only [Value.slice.injEq, true_and] at hv1
    obtain ⟨hv1, rfl⟩ := hv1
    rw [hg1] at hv1
    simp only [Option.some.injEq, Addr.mk.injEq, and_true] at hv1
    obtain ⟨rfl, rfl⟩ := hv1
    obtain ⟨bo, bcap, hv2, hbo⟩ := Sq.row_cases HTT.out.rowH
    obtain ⟨gh, rfl, hg4, hg5⟩ := hbo (by omega)
    subst hv2
    have hvl : (vers t).length = t.length := by simp [vers]
    have hkl : ((vers t).take k).length = k := by rw [List.length_take]; omega
    have hkd : ((vers t).drop k).length = t.length - k := by rw [List.length_drop]; omega
    have hhl : (hcs t).length = t.length := by simp [hcs]
    have hht : ((hcs t).take k).length = k := by rw [List.length_take]; omega
    have hhd : ((hcs t).drop k).length = t.length - k := by rw [List.length_drop]; omega
    have HS1 := Lib.hid (fun W (hb : Below w.heap.size w W) => (show ∀ j u, (vcs ((vers t).take k))[j]? = some u → W.cell? ((⟨fb, 0, none⟩ : Addr).add j) = some u from
      part_cells (ys := []) HTT.out.rowL (by rw [List.nil_append, ← vcs_append, List.take_append_drop]) (by rw [vcs_len, hvl]) hb))
    have HS3 := Lib.hid (fun W (hb : Below w.heap.size w W) => (show ∀ j u, (vcs ((vers t).drop k))[j]? = some u → W.cell? ((⟨fb, k * 4, none⟩ : Addr).add j) = some u from by
      have := part_cells (ys := vcs ((vers t).take k)) (us := []) HTT.out.rowL (by rw [List.append_nil, ← vcs_append, List.take_append_drop]) (by rw [vcs_len, hvl]) hb
      rwa [vcs_len, hkl] at this))
    have HS4 := Lib.hid (fun W (hb : Below w.heap.size w W) => (show ∀ j u, ((hcs t).take k)[j]? = some u → W.cell? ((⟨gh, 0, none⟩ : Addr).add j) = some u from
      part_cells (ys := []) HTT.out.rowH (by rw [List.nil_append, List.take_append_drop]) (by rw [hhl, Nat.mul_one]) hb))
    have HS6 := Lib.hid (fun W (hb : Below w.heap.size w W) => (show ∀ j u, ((hcs t).drop k)[j]? = some u → W.cell? ((⟨gh, k, none⟩ : Addr).add j) = some u from by
      have := part_cells (ys := (hcs t).take k) (us := []) HTT.out.rowH (by rw [List.append_nil, List.take_append_drop]) (by rw [hhl, Nat.mul_one]) hb
      rwa [hht] at this))
    have HL1 := Lib.hid (show (vcs ((vers t).take k)).length = k * 4 by rw [vcs_len, hkl])
    have HL3 := Lib.hid (show (vcs ((vers t).drop k)).length = (t.length - k) * 4 by rw [vcs_len, hkd])
    have HL4 := Lib.hid (show ((hcs t).take k).length = k * 1 by rw [hht, Nat.mul_one])
    have HL6 := Lib.hid (show ((hcs t).drop k).length = (t.length - k) * 1 by rw [hhd, Nat.mul_one])
    have HO1 := Lib.hid (@vcs_one ((vers t).take k))
    have HO3 := Lib.hid (@vcs_one ((vers t).drop k))
    have HO4 := Lib.hid (fun u (hu : u ∈ (hcs t).take k) => @hcs_one t u (List.mem_of_mem_take hu))
    have HO6 := Lib.hid (fun u (hu : u ∈ (hcs t).drop k) => @hcs_one t u (List.mem_of_mem_drop hu))
    obtain ⟨hc1, hc2⟩ := row_cap HTT.out.rowL
    obtain ⟨hc3, hc4⟩ := row_cap HTT.out.rowH
    unfold maxLen at hc2 hc4
    clear hvl hkl hkd hhl hht hhd hg1 hg2 hg3 hg4 hg5 hao hbo e0 e1 e2 e3 x0 x1 x2 x3 y0 HC HPL2 HPL HIN HLS HSP
    generalize vcs ((vers t).take k) = A1 at *
    generalize vcs ((vers t).drop k) = A3 at *
    generalize (hcs t).take k = A4 at *
    generalize (hcs t).drop k = A6 at *
    go_upto_region 14 with (at_builtin; refine wpList_append_own _ rfl _ _ 26 rfl (w.heap.size + 1) 33 i0 (.agg #[.string ⟨#[]⟩, .int .u64 0, .bool false, .string ⟨#[]⟩]) 4 48 Try.underlying26 ii iz0 iz1 iz2 rfl (by decide) _ _ _ rfl (World.ownsRow_nil _ _ _ _) ⟨fb, 0, none⟩ k _ A1 rfl HL1.out (HS1.out _ J0.bel) HO1.out (by unfold maxLen; omega) (by omega) (by omega) ?_; intro v1 W1 hown1 hgrow _; have hgrow2 : World.grownBy _ W1 none := hgrow; have J1 := J0.grown hgrow2 (fun r hr => by cases hr) hbl; clear hgrow hgrow2)
    clear x00 x01 x02 x03 y00 y01
    have x10 := J1.box.cell 0
    have x11 := J1.box.cell 1
    have x12 := J1.box.cell 2
    have x13 := J1.box.cell 3
    have y10 := J1.tab.cell 0
    have y11 := J1.tab.cell 1
    have s1 := J1.bel.size
    have q1 := J1.box.lt
    simp at x10 x11 x12 x13 y10 y11
    go_upto_region 15 with (at_builtin; refine wpList_append_own _ rfl _ _ 26 rfl (w.heap.size + 1) 33 i0 (.agg #[.string ⟨#[]⟩, .int .u64 0, .bool false, .string ⟨#[]⟩]) 4 48 Try.underlying26 ii iz0 iz1 iz2 rfl (by decide) _ _ _ rfl (hown1.alloc _) ⟨W1.heap.size, 0, none⟩ 1 1 [_, _, _, _] rfl rfl (by simpa using Vs.cell_four_new W1 _ _ _ _ _) (by simp [Value.oneCell']) (by unfold maxLen; omega) (by omega) (by simp; omega) ?_; intro v2 W2 hown2 hgrow _; have J2 := (J1.alloc (.cells #[.string (Cd.bs v.key), .int .u64 v.seq, .bool v.del, .string (Cd.bs v.val)] 33)).grown hgrow (fun r hr => (Ob.row_lt hown1 hr).1) hbl; clear hgrow)
    clear x10 x11 x12 x13 y10 y11
    have x20 := J2.box.cell 0
    have x21 := J2.box.cell 1
    have x22 := J2.box.cell 2
    have x23 := J2.box.cell 3
    have y20 := J2.tab.cell 0
    have y21 := J2.tab.cell 1
    have s2 := J2.bel.size
    have q2 := J2.box.lt
    simp at x20 x21 x22 x23 y20 y21
    go_upto_region 16 with (at_builtin; refine wpList_append_own _ rfl _ _ 26 rfl (w.heap.size + 1) 33 i0 (.agg #[.string ⟨#[]⟩, .int .u64 0, .bool false, .string ⟨#[]⟩]) 4 48 Try.underlying26 ii iz0 iz1 iz2 rfl (by decide) _ _ _ rfl hown2 ⟨fb, k * 4, none⟩ (t.length - k) _ A3 rfl HL3.out (HS3.out _ J2.bel) HO3.out (by unfold maxLen; omega) (by omega) (by omega) ?_; intro v3 W3 hown3 hgrow _; have J3 := J2.grown hgrow (fun r hr => (Ob.row_lt hown2 hr).1) hbl; clear hgrow)
    clear x20 x21 x22 x23 y20 y21
    have x30 := J3.box.cell 0
    have x31 := J3.box.cell 1
    have x32 := J3.box.cell 2
    have x33 := J3.box.cell 3
    have y30 := J3.tab.cell 0
    have y31 := J3.tab.cell 1
    have s3 := J3.bel.size
    have q3 := J3.box.lt
    simp at x30 x31 x32 x33 y30 y31
    go_upto_region 17 with (at_builtin; refine wpList_append_own _ rfl _ _ 27 rfl (w.heap.size + 1) 3 j0 (.int .i64 0) 1 8 Try.underlying27 ji jz0 jz1 jz2 rfl (by decide) _ _ _ rfl (World.ownsRow_nil _ _ _ _) ⟨gh, 0, none⟩ k _ A4 rfl HL4.out (HS4.out _ J3.bel) HO4.out (by unfold maxLen; omega) (by omega) (by omega) ?_; intro v4 W4 hown4 hgrow _; have hgrow2 : World.grownBy _ W4 none := hgrow; have J4 := J3.grown hgrow2 (fun r hr => by cases hr) hbl; have hown34 := Sq.row_kept hown3 (Sq.Kept.grown (T := fun _ => True) hgrow2 (fun r hr => by cases hr)) (fun _ _ => trivial); clear hgrow hgrow2)
    clear x30 x31 x32 x33 y30 y31
    have x40 := J4.box.cell 0
    have x41 := J4.box.cell 1
    have x42 := J4.box.cell 2
    have x43 := J4.box.cell 3
    have y40 := J4.tab.cell 0
    have y41 := J4.tab.cell 1
    have s4 := J4.bel.size
    have q4 := J4.box.lt
    simp at x40 x41 x42 x43 y40 y41
    go_upto_region 18 with (at_builtin; refine wpList_append_own _ rfl _ _ 27 rfl (w.heap.size + 1) 3 j0 (.int .i64 0) 1 8 Try.underlying27 ji jz0 jz1 jz2 rfl (by decide) _ _ _ rfl (hown4.alloc _) ⟨W4.heap.size, 0, none⟩ 1 1 [_] rfl rfl (by simpa using cell_one_new W4 _ _) (by simp [Value.oneCell']) (by unfold maxLen; omega) (by omega) (by simp; omega) ?_; intro v5 W5 hown5 hgrow _; have J5 := (J4.alloc (.cells #[.int .i64 (hh : Int)] 3)).grown hgrow (fun r hr => (Ob.row_lt hown4 hr).1) hbl; have hown35 := Sq.row_kept (hown34.alloc (.cells #[.int .i64 (hh : Int)] 3)) (Sq.Kept.grown (T := fun k => v4.ownBlock ≠ some k) hgrow (fun r hr h => h hr)) (fun g hg e => Ob.rows_apart (hown34.alloc (.cells #[.int .i64 (hh : Int)] 3)) (hown4.alloc (.cells #[.int .i64 (hh : Int)] 3)) (by decide) g hg e); clear hgrow)
    clear x40 x41 x42 x43 y40 y41
    have x50 := J5.box.cell 0
    have x51 := J5.box.cell 1
    have x52 := J5.box.cell 2
    have x53 := J5.box.cell 3
    have y50 := J5.tab.cell 0
    have y51 := J5.tab.cell 1
    have s5 := J5.bel.size
    have q5 := J5.box.lt
    simp at x50 x51 x52 x53 y50 y51
    go_upto_region 19 with (at_builtin; refine wpList_append_own _ rfl _ _ 27 rfl (w.heap.size + 1) 3 j0 (.int .i64 0) 1 8 Try.underlying27 ji jz0 jz1 jz2 rfl (by decide) _ _ _ rfl hown5 ⟨gh, k, none⟩ (t.length - k) _ A6 rfl HL6.out (HS6.out _ J5.bel) HO6.out (by unfold maxLen; omega) (by omega) (by omega) ?_; intro v6 W6 hown6 hgrow _; have J6 := J5.grown hgrow (fun r hr => (Ob.row_lt hown5 hr).1) hbl; have hown36 := Sq.row_kept hown35 (Sq.Kept.grown (T := fun k => v5.ownBlock ≠ some k) hgrow (fun r hr h => h hr)) (fun g hg e => Ob.rows_apart hown35 hown5 (by decide) g hg e); clear hgrow)
    clear x50 x51 x52 x53 y50 y51
    have x60 := J6.box.cell 0
    have x61 := J6.box.cell 1
    have x62 := J6.box.cell 2
    have x63 := J6.box.cell 3
    have y60 := J6.tab.cell 0
    have y61 := J6.tab.cell 1
    have s6 := J6.bel.size
    have q6 := J6.box.lt
    simp at x60 x61 x62 x63 y60 y61
    have e1 : 0 + k + 1 + (t.length - k) = t.length + 1 := by omega
    rw [e1, List.nil_append] at hown36 hown6
    rw [← HK.out] at hown36
    rw [← HKH.out] at hown6
    have f60 := J6.tab.frozen 0
    have f61 := J6.tab.frozen 1
    have f62 := J6.tab.lt
    obtain ⟨g3, c3, rfl, _, _⟩ := hown36.form (by omega)
    obtain ⟨g6, c6, rfl, _, _⟩ := hown6.form (by omega)
    have HD := Lib.hid (addR_done HTT.out J6 hown36 hown6)
    clear hown36 hown6 hown35 hown34 hown5 hown4 hown3 hown2 hown1 e1
    go_wp2_with fail
    refine bodyPost_ret (v := .int .i64 0) (by simp [results, Try.results25, go_sem]) rfl ?_
    exact HADD.out _ _ ⟨rfl, HD.out⟩
  · have hke : t.length ≤ spot t v := by omega
    have hd2 : decide (spot t v < t.length) = false := by simpa using hk
    have J0 := hI
    by_cases hne : t = []
    · subst hne
      obtain ⟨n1, n2⟩ := HTT.out.nil rfl
      subst n1
      subst n2
      generalize hsq : spot ([] : Tab) v = k at *
      obtain rfl : k = 0 := hsq.symm
      have HSQ := Lib.hid hsq
      clear hsq HC HPL HIN HLS HSP ha HVL
      have y01 := J0.tab.cell 1
      have s0 := J0.bel.size
      have q0 := J0.box.lt
      simp at y01
      have hown0 := World.ownsRow_nil wc (w.heap.size + 1) 33 4
      go_upto_region 14 with (at_builtin; refine wpList_append_own_none rfl _ _ 26 rfl (w.heap.size + 1) 33 i0 4 Try.underlying26 ii _ _ _ rfl (World.ownsRow_nil _ _ _ _) rfl ?_)
      go_upto_region 15 with (at_builtin; refine wpList_append_own _ rfl _ _ 26 rfl (w.heap.size + 1) 33 i0 (.agg #[.string ⟨#[]⟩, .int .u64 0, .bool false, .string ⟨#[]⟩]) 4 48 Try.underlying26 ii iz0 iz1 iz2 rfl (by decide) _ _ _ rfl (World.ownsRow_nil _ _ _ _) ⟨wc.heap.size, 0, none⟩ 1 1 [_, _, _, _] rfl rfl (by simpa using Vs.cell_four_new wc _ _ _ _ _) (by simp [Value.oneCell']) (by unfold maxLen; omega) (by omega) (by simp; omega) ?_; intro v2 W2 hown2 hgrow _; have hgrow2 : World.grownBy _ W2 none := hgrow; have J2 := (J0.alloc (.cells #[.string (Cd.bs v.key), .int .u64 v.seq, .bool v.del, .string (Cd.bs v.val)] 33)).grown hgrow2 (fun r hr => by cases hr) hbl; clear hgrow hgrow2)
      have y20 := J2.tab.cell 0
      have y21 := J2.tab.cell 1
      have s2 := J2.bel.size
      simp at y20 y21
      go_upto_region 16 with (at_builtin; refine wpList_append_own_none rfl _ _ 26 rfl (w.heap.size + 1) 33 i0 4 Try.underlying26 ii _ _ _ rfl hown2 rfl ?_)
      go_upto_region 17 with (at_builtin; refine wpList_append_own_none rfl _ _ 27 rfl (w.heap.size + 1) 3 j0 1 Try.underlying27 ji _ _ _ rfl (World.ownsRow_nil _ _ _ _) rfl ?_)
      go_upto_region 18 with (at_builtin; refine wpList_append_own _ rfl _ _ 27 rfl (w.heap.size + 1) 3 j0 (.int .i64 0) 1 8 Try.underlying27 ji jz0 jz1 jz2 rfl (by decide) _ _ _ rfl (World.ownsRow_nil _ _ _ _) ⟨W2.heap.size, 0, none⟩ 1 1 [_] rfl rfl (by simpa using cell_one_new W2 _ _) (by simp [Value.oneCell']) (by unfold maxLen; omega) (by omega) (by simp; omega) ?_; intro v5 W5 hown5 hgrow _; have hgrow2 : World.grownBy _ W5 none := hgrow; have J5 := (J2.alloc (.cells #[.int .i64 (hh : Int)] 3)).grown hgrow2 (fun r hr => by cases hr) hbl; have hown35 := Sq.row_kept (hown2.alloc (.cells #[.int .i64 (hh : Int)] 3)) (Sq.Kept.grown (T := fun _ => True) hgrow2 (fun r hr => by cases hr)) (fun _ _ => trivial); clear hgrow hgrow2)
      have y50 := J5.tab.cell 0
      have y51 := J5.tab.cell 1
      simp at y50 y51
      go_upto_region 19 with (at_builtin; refine wpList_append_own_none rfl _ _ 27 rfl (w.heap.size + 1) 3 j0 1 Try.underlying27 ji _ _ _ rfl hown5 rfl ?_)
      replace hown35 := row_len hown35 (show _ = ([] : Tab).length + 1 from rfl)
      replace hown5 := row_len hown5 (show _ = ([] : Tab).length + 1 from rfl)
      have hk1 := HK.out
      have hk2 := HKH.out
      have f60 := J5.tab.frozen 0
      have f61 := J5.tab.frozen 1
      have f62 := J5.tab.lt
      obtain ⟨g3, c3, rfl, _, _⟩ := hown35.form (by simp)
      obtain ⟨g6, c6, rfl, _, _⟩ := hown5.form (by simp)
      have HD := Lib.hid (addR_done (v := v) (hh := hh) HTT.out J5 (by rw [hk1]; exact hown35) (by rw [hk2]; exact hown5))
      clear hown35 hown5 hown2 hk1 hk2
      go_wp2_with fail
      refine bodyPost_ret (v := .int .i64 0) (by simp [results, Try.results25, go_sem]) rfl ?_
      exact HADD.out _ _ ⟨rfl, HD.out⟩
    · have hnz : 0 < t.length := List.length_pos_iff.2 hne
      obtain rfl := HVL.out
      obtain ⟨rfl, hfb⟩ := ha hnz
      generalize hsq : spot t v = k at *
      have HSQ := Lib.hid hsq
      clear hsq hne
      have x00 := J0.box.cell 0
      have x01 := J0.box.cell 1
      have x02 := J0.box.cell 2
      have x03 := J0.box.cell 3
      have y00 := J0.tab.cell 0
      have y01 := J0.tab.cell 1
      have s0 := J0.bel.size
      have q0 := J0.box.lt
      simp at x00 x01 x02 x03 y00 y01
      obtain ⟨ao, cp, hv1, hao⟩ := Sq.row_cases HTT.out.rowL
      obtain ⟨g1, hg1, hg2, hg3⟩ := hao (by omega)
      simp only [Value.slice.injEq, true_and] at hv1
      obtain ⟨hv1, rfl⟩ := hv1
      rw [hg1] at hv1
      simp only [Option.some.injEq, Addr.mk.injEq, and_true] at hv1
      obtain ⟨rfl, rfl⟩ := hv1
      obtain ⟨bo, bcap, hv2, hbo⟩ := Sq.row_cases HTT.out.rowH
      obtain ⟨gh, rfl, hg4, hg5⟩ := hbo (by omega)
      subst hv2
      have hvl : (vers t).length = t.length := by simp [vers]
      have hkl : ((vers t).take k).length = k := by rw [List.length_take]; omega
      have hkd : ((vers t).drop k).length = t.length - k := by rw [List.length_drop]; omega
      have hhl : (hcs t).length = t.length := by simp [hcs]
      have hht : ((hcs t).take k).length = k := by rw [List.length_take]; omega
      have hhd : ((hcs t).drop k).length = t.length - k := by rw [List.length_drop]; omega
      have HS1 := Lib.hid (fun W (hb : Below w.heap.size w W) => (show ∀ j u, (vcs ((vers t).take k))[j]? = some u → W.cell? ((⟨fb, 0, none⟩ : Addr).add j) = some u from
        part_cells (ys := []) HTT.out.rowL (by rw [List.nil_append, ← vcs_append, List.take_append_drop]) (by rw [vcs_len, hvl]) hb))
      have HS3 := Lib.hid (fun W (hb : Below w.heap.size w W) => (show ∀ j u, (vcs ((vers t).drop k))[j]? = some u → W.cell? ((⟨fb, k * 4, none⟩ : Addr).add j) = some u from by
        have := part_cells (ys := vcs ((vers t).take k)) (us := []) HTT.out.rowL (by rw [List.append_nil, ← vcs_append, List.take_append_drop]) (by rw [vcs_len, hvl]) hb
        rwa [vcs_len, hkl] at this))
      have HS4 := Lib.hid (fun W (hb : Below w.heap.size w W) => (show ∀ j u, ((hcs t).take k)[j]? = some u → W.cell? ((⟨gh, 0, none⟩ : Addr).add j) = some u from
        part_cells (ys := []) HTT.out.rowH (by rw [List.nil_append, List.take_append_drop]) (by rw [hhl, Nat.mul_one]) hb))
      have HS6 := Lib.hid (fun W (hb : Below w.heap.size w W) => (show ∀ j u, ((hcs t).drop k)[j]? = some u → W.cell? ((⟨gh, k, none⟩ : Addr).add j) = some u from by
        have := part_cells (ys := (hcs t).take k) (us := []) HTT.out.rowH (by rw [List.append_nil, List.take_append_drop]) (by rw [hhl, Nat.mul_one]) hb
        rwa [hht] at this))
      have HL1 := Lib.hid (show (vcs ((vers t).take k)).length = k * 4 by rw [vcs_len, hkl])
      have HL3 := Lib.hid (show (vcs ((vers t).drop k)).length = (t.length - k) * 4 by rw [vcs_len, hkd])
      have HL4 := Lib.hid (show ((hcs t).take k).length = k * 1 by rw [hht, Nat.mul_one])
      have HL6 := Lib.hid (show ((hcs t).drop k).length = (t.length - k) * 1 by rw [hhd, Nat.mul_one])
      have HO1 := Lib.hid (@vcs_one ((vers t).take k))
      have HO3 := Lib.hid (@vcs_one ((vers t).drop k))
      have HO4 := Lib.hid (fun u (hu : u ∈ (hcs t).take k) => @hcs_one t u (List.mem_of_mem_take hu))
      have HO6 := Lib.hid (fun u (hu : u ∈ (hcs t).drop k) => @hcs_one t u (List.mem_of_mem_drop hu))
      obtain ⟨hc1, hc2⟩ := row_cap HTT.out.rowL
      obtain ⟨hc3, hc4⟩ := row_cap HTT.out.rowH
      unfold maxLen at hc2 hc4
      have HA3 := Lib.hid (show vcs ((vers t).drop k) = [] by rw [List.drop_of_length_le (by omega)]; rfl)
      have HA6 := Lib.hid (show (hcs t).drop k = [] by rw [List.drop_of_length_le (by omega)])
      have hcap : k < cap ∨ k = cap := by omega
      have hbcap : k < bcap ∨ k = bcap := by omega
      rcases hcap with hcap | rfl <;> rcases hbcap with hbcap | rfl
      all_goals
        clear hvl hkl hkd hhl hht hhd hg1 hg2 hg3 hg4 hg5 hao hbo x0 x1 x2 x3 y0 HC HPL HIN HLS HSP
        generalize vcs ((vers t).take k) = A1 at *
        generalize vcs ((vers t).drop k) = A3 at *
        generalize (hcs t).take k = A4 at *
        generalize (hcs t).drop k = A6 at *
        go_upto_region 14 with (at_builtin; refine wpList_append_own _ rfl _ _ 26 rfl (w.heap.size + 1) 33 i0 (.agg #[.string ⟨#[]⟩, .int .u64 0, .bool false, .string ⟨#[]⟩]) 4 48 Try.underlying26 ii iz0 iz1 iz2 rfl (by decide) _ _ _ rfl (World.ownsRow_nil _ _ _ _) ⟨fb, 0, none⟩ _ _ A1 rfl HL1.out (HS1.out _ J0.bel) HO1.out (by unfold maxLen; omega) (by omega) (by omega) ?_; intro v1 W1 hown1 hgrow _; have hgrow2 : World.grownBy _ W1 none := hgrow; have J1 := J0.grown hgrow2 (fun r hr => by cases hr) hbl; clear hgrow hgrow2)
        clear x00 x01 x02 x03 y00 y01
        have x10 := J1.box.cell 0
        have x11 := J1.box.cell 1
        have x12 := J1.box.cell 2
        have x13 := J1.box.cell 3
        have y10 := J1.tab.cell 0
        have y11 := J1.tab.cell 1
        have s1 := J1.bel.size
        have q1 := J1.box.lt
        simp at x10 x11 x12 x13 y10 y11
        go_upto_region 15 with (at_builtin; refine wpList_append_own _ rfl _ _ 26 rfl (w.heap.size + 1) 33 i0 (.agg #[.string ⟨#[]⟩, .int .u64 0, .bool false, .string ⟨#[]⟩]) 4 48 Try.underlying26 ii iz0 iz1 iz2 rfl (by decide) _ _ _ rfl (hown1.alloc _) ⟨W1.heap.size, 0, none⟩ 1 1 [_, _, _, _] rfl rfl (by simpa using Vs.cell_four_new W1 _ _ _ _ _) (by simp [Value.oneCell']) (by unfold maxLen; omega) (by omega) (by simp; omega) ?_; intro v2 W2 hown2 hgrow _; have J2 := (J1.alloc (.cells #[.string (Cd.bs v.key), .int .u64 v.seq, .bool v.del, .string (Cd.bs v.val)] 33)).grown hgrow (fun r hr => (Ob.row_lt hown1 hr).1) hbl; clear hgrow)
        clear x10 x11 x12 x13 y10 y11
        have x20 := J2.box.cell 0
        have x21 := J2.box.cell 1
        have x22 := J2.box.cell 2
        have x23 := J2.box.cell 3
        have y20 := J2.tab.cell 0
        have y21 := J2.tab.cell 1
        have s2 := J2.bel.size
        have q2 := J2.box.lt
        simp at x20 x21 x22 x23 y20 y21
        go_upto_region 16 with (at_builtin; refine wpList_append_own _ rfl _ _ 26 rfl (w.heap.size + 1) 33 i0 (.agg #[.string ⟨#[]⟩, .int .u64 0, .bool false, .string ⟨#[]⟩]) 4 48 Try.underlying26 ii iz0 iz1 iz2 rfl (by decide) _ _ _ rfl hown2 _ _ _ A3 rfl (by rw [HA3.out]; simp <;> omega) (fun j u hj => by rw [HA3.out] at hj; simp at hj) HO3.out (by unfold maxLen; omega) (by omega) (by omega) ?_; intro v3 W3 hown3 hgrow _; have J3 := J2.grown hgrow (fun r hr => (Ob.row_lt hown2 hr).1) hbl; clear hgrow)
        clear x20 x21 x22 x23 y20 y21
        have x30 := J3.box.cell 0
        have x31 := J3.box.cell 1
        have x32 := J3.box.cell 2
        have x33 := J3.box.cell 3
        have y30 := J3.tab.cell 0
        have y31 := J3.tab.cell 1
        have s3 := J3.bel.size
        have q3 := J3.box.lt
        simp at x30 x31 x32 x33 y30 y31
        go_upto_region 17 with (at_builtin; refine wpList_append_own _ rfl _ _ 27 rfl (w.heap.size + 1) 3 j0 (.int .i64 0) 1 8 Try.underlying27 ji jz0 jz1 jz2 rfl (by decide) _ _ _ rfl (World.ownsRow_nil _ _ _ _) ⟨gh, 0, none⟩ _ _ A4 rfl HL4.out (HS4.out _ J3.bel) HO4.out (by unfold maxLen; omega) (by omega) (by omega) ?_; intro v4 W4 hown4 hgrow _; have hgrow2 : World.grownBy _ W4 none := hgrow; have J4 := J3.grown hgrow2 (fun r hr => by cases hr) hbl; have hown34 := Sq.row_kept hown3 (Sq.Kept.grown (T := fun _ => True) hgrow2 (fun r hr => by cases hr)) (fun _ _ => trivial); clear hgrow hgrow2)
        clear x30 x31 x32 x33 y30 y31
        have x40 := J4.box.cell 0
        have x41 := J4.box.cell 1
        have x42 := J4.box.cell 2
        have x43 := J4.box.cell 3
        have y40 := J4.tab.cell 0
        have y41 := J4.tab.cell 1
        have s4 := J4.bel.size
        have q4 := J4.box.lt
        simp at x40 x41 x42 x43 y40 y41
        go_upto_region 18 with (at_builtin; refine wpList_append_own _ rfl _ _ 27 rfl (w.heap.size + 1) 3 j0 (.int .i64 0) 1 8 Try.underlying27 ji jz0 jz1 jz2 rfl (by decide) _ _ _ rfl (hown4.alloc _) ⟨W4.heap.size, 0, none⟩ 1 1 [_] rfl rfl (by simpa using cell_one_new W4 _ _) (by simp [Value.oneCell']) (by unfold maxLen; omega) (by omega) (by simp; omega) ?_; intro v5 W5 hown5 hgrow _; have J5 := (J4.alloc (.cells #[.int .i64 (hh : Int)] 3)).grown hgrow (fun r hr => (Ob.row_lt hown4 hr).1) hbl; have hown35 := Sq.row_kept (hown34.alloc (.cells #[.int .i64 (hh : Int)] 3)) (Sq.Kept.grown (T := fun k => v4.ownBlock ≠ some k) hgrow (fun r hr h => h hr)) (fun g hg e => Ob.rows_apart (hown34.alloc (.cells #[.int .i64 (hh : Int)] 3)) (hown4.alloc (.cells #[.int .i64 (hh : Int)] 3)) (by decide) g hg e); clear hgrow)
        clear x40 x41 x42 x43 y40 y41
        have x50 := J5.box.cell 0
        have x51 := J5.box.cell 1
        have x52 := J5.box.cell 2
        have x53 := J5.box.cell 3
        have y50 := J5.tab.cell 0
        have y51 := J5.tab.cell 1
        have s5 := J5.bel.size
        have q5 := J5.box.lt
        simp at x50 x51 x52 x53 y50 y51
        go_upto_region 19 with (at_builtin; refine wpList_append_own _ rfl _ _ 27 rfl (w.heap.size + 1) 3 j0 (.int .i64 0) 1 8 Try.underlying27 ji jz0 jz1 jz2 rfl (by decide) _ _ _ rfl hown5 _ _ _ A6 rfl (by rw [HA6.out]; simp <;> omega) (fun j u hj => by rw [HA6.out] at hj; simp at hj) HO6.out (by unfold maxLen; omega) (by omega) (by omega) ?_; intro v6 W6 hown6 hgrow _; have J6 := J5.grown hgrow (fun r hr => (Ob.row_lt hown5 hr).1) hbl; have hown36 := Sq.row_kept hown35 (Sq.Kept.grown (T := fun k => v5.ownBlock ≠ some k) hgrow (fun r hr h => h hr)) (fun g hg e => Ob.rows_apart hown35 hown5 (by decide) g hg e); clear hgrow)
        clear x50 x51 x52 x53 y50 y51
        have x60 := J6.box.cell 0
        have x61 := J6.box.cell 1
        have x62 := J6.box.cell 2
        have x63 := J6.box.cell 3
        have y60 := J6.tab.cell 0
        have y61 := J6.tab.cell 1
        have s6 := J6.bel.size
        have q6 := J6.box.lt
        simp at x60 x61 x62 x63 y60 y61
        replace hown36 := row_len hown36 (show _ = t.length + 1 by omega)
        replace hown6 := row_len hown6 (show _ = t.length + 1 by omega)
        rw [List.nil_append] at hown36 hown6
        rw [← HK.out] at hown36
        rw [← HKH.out] at hown6
        have f60 := J6.tab.frozen 0
        have f61 := J6.tab.frozen 1
        have f62 := J6.tab.lt
        obtain ⟨g3, c3, rfl, _, _⟩ := hown36.form (by omega)
        obtain ⟨g6, c6, rfl, _, _⟩ := hown6.form (by omega)
        have HD := Lib.hid (addR_done HTT.out J6 hown36 hown6)
        clear hown36 hown6 hown35 hown34 hown5 hown4 hown3 hown2 hown1
        go_wp2_with fail
        refine bodyPost_ret (v := .int .i64 0) (by simp [results, Try.results25, go_sem]) rfl ?_
        exact HADD.out _ _ ⟨rfl, HD.out⟩
end Mt
end Go.Proofs.Ytgfpkbdinfdkfaa
