/-
  The document's table of versions (tapestryref06.Table): Add.
-/
import Derived.Test.YtgfpkbdinfdkfaaMemTabR
import Derived.StillTailTactics
import Derived.Deep.AppendLies
import Derived.Laws.AppendOwnNone
import Derived.Laws.OwnMore
import Derived.Deep.Cut
import Derived.Deep.CutRange
import Derived.Deep.CutBlock
import Derived.Deep.DeepCutAuto
namespace Go.Proofs.Ytgfpkbdinfdkfaa
open Go.RowKit
set_option linter.unusedSimpArgs false
set_option linter.unusedVariables false

theorem info_int6 : (Try.prog.info? 3).map (fun i => (i.zero, i.size, i.bytes)) = some (some (.int .i64 0), 1, 8) := by kernel_rfl
namespace Mt
open Op (bytesLess)
open Vs (Vers At vcs)

set_option maxRecDepth 100000 in
set_option maxHeartbeats 4000000 in
theorem mayM_any (v : Ver) (w : World) (hv : VerIn v) :
    Calls Try.prog 13 #[verV v] w fun e w' => e = .returned (.bool (mayB v)) ∧ Below w.heap.size w w' := by
  obtain ⟨k, q, d, x⟩ := v
  obtain ⟨h1, h2, h3, h4⟩ := hv
  simp only at h1 h2 h3 h4
  unfold verV mayB
  simp only
  have hsk : (Cd.bs k).size = k.length := rfl
  have hsv : (Cd.bs x).size = x.length := rfl
  have hvl : (Cd.bs x).toList = x := by rw [ByteArray.toList_mk]
  go_enter Try.func13, Try.ntmps13
  go_wp2_with fail
  all_goals go_ret
  all_goals refine ⟨congrArg (fun b => Ending.returned (.bool b)) ?_, (Below.refl _ _).alloc (Nat.le_refl _) _⟩
  all_goals (first | (simp_all; done) | (cases d <;> cases x <;> simp_all <;> omega) | (simp_all; intros; omega) | skip)

def hcs (t : Tab) : List Value := t.map fun x => .int .i64 (x.2 : Int)
/-- the document's table, with rows of its own -/
structure RTabO (B0 b : Nat) (S : Sq.Blocks) (lv hv : Value) (t : Tab) (W : World) : Prop where
  obj : Ob.Obj W b 29 [lv, hv]
  rowL : W.ownsRow B0 33 4 lv t.length (vcs (vers t))
  rowH : W.ownsRow B0 3 1 hv t.length (hcs t)
  nil : t = [] → lv = .slice none 0 0 ∧ hv = .slice none 0 0
  sb : S b
  sl : ∀ g, lv.ownBlock = some g → S g
  sh : ∀ g, hv.ownBlock = some g → S g
  lo : ∀ k, S k → B0 ≤ k ∧ k < W.heap.size
theorem RTabO.kept {B0 b : Nat} {S : Sq.Blocks} {lv hv : Value} {t : Tab} {W W' : World} (h : RTabO B0 b S lv hv t W) (hk : Sq.Kept S W W') : RTabO B0 b S lv hv t W' :=
  ⟨h.obj.kept hk h.sb, Sq.row_kept h.rowL hk h.sl, Sq.row_kept h.rowH hk h.sh, h.nil, h.sb, h.sl, h.sh, fun k hs => ⟨(h.lo k hs).1, Nat.lt_of_lt_of_le (h.lo k hs).2 hk.size⟩⟩
theorem RTabO.tab {B0 b : Nat} {S : Sq.Blocks} {lv hv : Value} {t : Tab} {W : World} (h : RTabO B0 b S lv hv t W) : RTab W b lv hv t := by
  refine ⟨h.obj, ?_, ?_⟩
  · have := h.rowL
    rw [show t.length = (vers t).length by simp [vers]] at this
    exact Vs.vers_of_own this
  · obtain ⟨a, cap, g, rfl, _, _, h3⟩ := Gn.row_at h.rowH
    refine ⟨a, cap, g, 0, by simp [hgts], fun h => ?_, fun j hj => ?_⟩
    · rw [List.length_map] at h; exact ⟨(h3 h).1, (h3 h).2.2.1⟩
    · rw [List.length_map] at hj
      obtain ⟨_, _, _, hc⟩ := h3 (by omega)
      have := hc j (by omega)
      rw [Nat.zero_add, this]
      simp [hcs, hgts, hj]
theorem spot_cons_pos {x : Ver × Nat} {r : Tab} {v : Ver} (h : lessB x.1 v = true) : spot (x :: r) v = spot r v + 1 := by unfold spot; rw [List.takeWhile_cons_of_pos (by simpa using h), List.length_cons]
theorem spot_cons_neg {x : Ver × Nat} {r : Tab} {v : Ver} (h : lessB x.1 v = false) : spot (x :: r) v = 0 := by unfold spot; rw [List.takeWhile_cons_of_neg (by simp [h])]; rfl
theorem spot_le (t : Tab) (v : Ver) : spot t v ≤ t.length := by unfold spot; exact (List.takeWhile_sublist _).length_le
theorem spot_at (v : Ver) : ∀ (t : Tab) (q : Nat) (h : q < t.length), q ≤ spot t v → (lessB t[q].1 v = true → q + 1 ≤ spot t v) ∧ (lessB t[q].1 v = false → q = spot t v)
  | x :: r, 0, _, _ => by
    refine ⟨fun h => by rw [spot_cons_pos (show lessB x.1 v = true from h)]; omega, fun h => by rw [spot_cons_neg (show lessB x.1 v = false from h)]⟩
  | x :: r, q + 1, h, hq => by
    cases hx : lessB x.1 v with
    | false => rw [spot_cons_neg hx] at hq; omega
    | true =>
      rw [spot_cons_pos hx] at hq ⊢
      have := spot_at v r q (by simpa using h) (by omega)
      simp only [List.getElem_cons_succ]
      exact ⟨fun h => by have := this.1 h; omega, fun h => by have := this.2 h; omega⟩
theorem place_less {a b : Ver} (h : placeB a b = true) : lessB a b = false ∧ lessB b a = false := by
  have e := (less_total a b)
  rw [h] at e
  cases h1 : lessB a b <;> cases h2 : lessB b a <;> simp_all
theorem there_spot {v : Ver} : ∀ {t : Tab}, Ordered t → (spot t v = t.length ∧ there t v = false) ∨ ∃ h : spot t v < t.length, there t v = placeB t[spot t v].1 v
  | [], _ => .inl ⟨rfl, rfl⟩
  | x :: r, ho => by
    have ho' : ((x :: r).map (·.1)).Pairwise fun a b => lessB a b = true := ho
    rw [List.map_cons, List.pairwise_cons] at ho'
    have ht : there (x :: r) v = (placeB x.1 v || there r v) := rfl
    cases hx : lessB x.1 v with
    | true =>
      have hp : placeB x.1 v = false := by
        cases h : placeB x.1 v with
        | false => rfl
        | true => rw [(place_less h).1] at hx; cases hx
      rw [ht, hp, Bool.false_or]
      rcases there_spot (v := v) (t := r) ho'.2 with ⟨h1, h2⟩ | ⟨h1, h2⟩
      · exact .inl ⟨by rw [spot_cons_pos hx, h1]; rfl, h2⟩
      · refine .inr ⟨by rw [spot_cons_pos hx]; simpa using h1, ?_⟩
        simp only [spot_cons_pos hx, List.getElem_cons_succ]
        exact h2
    | false =>
      refine .inr ⟨by rw [spot_cons_neg hx]; simp, ?_⟩
      simp only [spot_cons_neg hx, List.getElem_cons_zero]
      rw [ht]
      cases hp : placeB x.1 v with
      | true => rfl
      | false =>
        have hvx : lessB v x.1 = true := by
          have := (less_total x.1 v).2
          rw [hx, hp] at this
          simpa using this
        rw [Bool.false_or]
        unfold there
        rw [List.any_eq_false]
        intro y hy hc
        have := less_trans hvx (ho'.1 y hy)
        rw [(place_less hc).2] at this
        cases this

set_option maxRecDepth 100000 in
set_option maxHeartbeats 4000000 in
theorem addR_bad {b : Nat} (v : Ver) (hh : Int) (w : World) (hv : VerIn v) (hi : -9223372036854775808 ≤ hh ∧ hh ≤ 9223372036854775807) (hbad : mayB v = false ∨ hh < 1 ∨ 8 < hh) :
    Calls Try.prog 25 #[.pointer (some ⟨b, 0, none⟩), verV v, .int .i64 hh] w fun e w' => e = .returned (.int .i64 1) ∧ Below w.heap.size w w' := by
  have HM := Lib.hid (fun W => mayM_any v W hv)
  have hB0 : Below w.heap.size w (w.alloc (.cells #[.string (Cd.bs v.key), .int .u64 v.seq, .bool v.del, .string (Cd.bs v.val)] 33)) := (Below.refl _ _).alloc (Nat.le_refl _) _
  unfold verV at *
  obtain ⟨hi1, hi2⟩ := hi
  cases hm : mayB v with
  | false =>
    rw [hm] at HM
    clear hm hbad
    go_enter Try.func25, Try.ntmps25
    go_wp2_with (go_at_call 13; (with_reducible refine (HM.out _).mono ?_); rintro e w1 ⟨rfl, hb1⟩; have hB1 := hB0.trans (hb1.mono hB0.size))
    all_goals go_ret
    all_goals exact ⟨rfl, hB1⟩
  | true =>
    rw [hm] at HM hbad
    clear hm
    rcases hbad with h | h | h
    · cases h
    · go_enter Try.func25, Try.ntmps25
      go_wp2_with (go_at_call 13; (with_reducible refine (HM.out _).mono ?_); rintro e w1 ⟨rfl, hb1⟩; have hB1 := hB0.trans (hb1.mono hB0.size))
      all_goals go_ret
      all_goals exact ⟨rfl, hB1⟩
    · have h2 : ¬ hh < 1 := by omega
      go_enter Try.func25, Try.ntmps25
      go_wp2_with (go_at_call 13; (with_reducible refine (HM.out _).mono ?_); rintro e w1 ⟨rfl, hb1⟩; have hB1 := hB0.trans (hb1.mono hB0.size))
      all_goals go_ret
      all_goals exact ⟨rfl, hB1⟩

/-- what stands while Add looks -/
structure AdR (b : Nat) (lv hv : Value) (v : Ver) (w wr : World) : Prop where
  bel : Below w.heap.size w wr
  box : Ob.Obj wr w.heap.size 33 [.string (Cd.bs v.key), .int .u64 v.seq, .bool v.del, .string (Cd.bs v.val)]
  tab : Ob.Obj wr b 29 [lv, hv]
theorem AdR.below {b : Nat} {lv hv : Value} {v : Ver} {w wr wr' : World} (h : AdR b lv hv v w wr) (hb : Below wr.heap.size wr wr') : AdR b lv hv v w wr' := ⟨h.bel.trans (hb.mono h.bel.size), h.box.below hb, h.tab.below hb⟩
theorem AdR.drew {b : Nat} {lv hv : Value} {v : Ver} {w wr : World} (h : AdR b lv hv v w wr) (n : Nat) : AdR b lv hv v w (wr.drewN n) := ⟨belowN h.bel _, h.box, h.tab⟩

set_option maxRecDepth 100000 in
set_option maxHeartbeats 8000000 in
theorem addR_there {B0 b : Nat} {S : Sq.Blocks} {lv hw : Value} {t : Tab} (v : Ver) (hh : Int) (w : World) (hT : RTabO B0 b S lv hw t w) (ho : Ordered t) (hI : ∀ x ∈ t, VerIn x.1) (hL : t.length ≤ 1099511627776) (hv : VerIn v) (hm : mayB v = true) (hi : 1 ≤ hh ∧ hh ≤ 8) (hth : there t v = true) :
    Calls Try.prog 25 #[.pointer (some ⟨b, 0, none⟩), verV v, .int .i64 hh] w fun e w' => e = .returned (.int .i64 7) ∧ Below w.heap.size w w' := by
  have HM := Lib.hid (fun W => mayM_any v W hv)
  rw [hm] at HM
  have HLS := Lib.hid (fun (x : Ver) (hx : VerIn x) W => lessR_any x v W hx.wide hv.wide)
  have HSP := Lib.hid (spot_at v t)
  have hsl := spot_le t v
  obtain ⟨hsp, hpl⟩ : ∃ h : spot t v < t.length, placeB t[spot t v].1 v = true := by
    rcases there_spot (v := v) ho with ⟨_, h2⟩ | ⟨h1, h2⟩
    · rw [hth] at h2; cases h2
    · exact ⟨h1, by rw [← h2]; exact hth⟩
  have HPL := Lib.hid (fun W => placeR_any t[spot t v].1 v W (hI _ (List.getElem_mem hsp)).wide hv.wide)
  rw [hpl] at HPL
  have HIN := Lib.hid (fun q (hq : q < t.length) => hI _ (List.getElem_mem hq))
  obtain ⟨a, cap, fb, fo, rfl, ha, hcells⟩ := hT.tab.vers
  have hvl : (vers t).length = t.length := by simp [vers]
  rw [hvl] at ha
  obtain ⟨rfl, hfb⟩ := ha (by omega)
  have HC := Lib.hid (fun q (hq : q < t.length) => (show At w fb (fo + q * 4) t[q].1 from by have := hcells q (by omega); simpa [vers] using this))
  have hB0 : Below w.heap.size w (w.alloc (.cells #[.string (Cd.bs v.key), .int .u64 v.seq, .bool v.del, .string (Cd.bs v.val)] 33)) := (Below.refl _ _).alloc (Nat.le_refl _) _
  have I0 : AdR b (.slice (some ⟨fb, fo, none⟩) (vers t).length cap) hw v w (w.alloc (.cells #[.string (Cd.bs v.key), .int .u64 v.seq, .bool v.del, .string (Cd.bs v.val)] 33)) := ⟨hB0, Ob.Obj.new w _ _, hT.obj.alloc _⟩
  rw [hvl] at I0
  obtain ⟨hi1, hi2⟩ := hi
  clear hcells hT hvl hth hm hpl hI ho
  unfold verV at *
  go_enter Try.func25, Try.ntmps25
  go_wp2_with (go_at_call 13; (with_reducible refine (HM.out _).mono ?_); rintro e w1 ⟨rfl, hb1⟩; have I1 := I0.below hb1)
  go_loopw [8] (fun i wr => ∃ q : Nat, q ≤ spot t v ∧ i = .int .i64 (q : Int) ∧ AdR b (.slice (some ⟨fb, fo, none⟩) t.length cap) hw v w wr) (fun i _ => t.length - (intOf i).toNat)
  case atStart => exact ⟨0, Nat.zero_le _, rfl, I1⟩
  case round =>
    obtain ⟨q, hq, rfl, hIr⟩ := hrel
    have hlt : q < t.length := by omega
    have hd2 : decide (q < t.length) = true := by simpa using hlt
    obtain ⟨e0, e1, e2, e3⟩ := (HC.out q hlt).below hIr.bel hfb
    have hi1 : (0 : Int) ≤ (q : Int) ∧ (q : Int) < (t.length : Int) := by omega
    obtain ⟨s1, s2⟩ := HSP.out q hlt hq
    have x0 := hIr.box.cell 0
    have x1 := hIr.box.cell 1
    have x2 := hIr.box.cell 2
    have x3 := hIr.box.cell 3
    have y0 := hIr.tab.cell 0
    have hin := HIN.out q hlt
    have HLS1 := Lib.hid (HLS.out t[q].1 hin)
    simp at x0 x1 x2 x3 y0
    cases hb : lessB t[q].1 v with
    | true =>
      have hq1 := s1 hb
      rw [hb] at HLS1
      clear s1 s2 hb hin
      generalize t[q] = x at *
      obtain ⟨⟨k, sq, d, val⟩, hx⟩ := x
      simp only at e0 e1 e2 e3 HLS1
      go_wp2_with fail
      go_still_tail 16, (by kernel_rfl)
      change wpList _ _ _ _ _ (World.drew _)
      have hI2 := hIr.drew 1
      go_wp2_with (go_at_call 20; (with_reducible refine (HLS1.out _).mono ?_); rintro e w3 ⟨rfl, hb3⟩; have hI3 := hI2.below hb3)
      go_roundw
      case rel => exact ⟨q + 1, hq1, by go_num, hI3⟩
      case measure => simp [intOf]; omega
    | false =>
      obtain rfl := s2 hb
      rw [hb] at HLS1
      clear s1 s2 hb hin
      have HPL2 := Lib.hid HPL.out
      generalize hsq : spot t v = q at *
      clear hsq
      generalize t[q] = x at *
      obtain ⟨⟨k, sq, d, val⟩, hx⟩ := x
      simp only at e0 e1 e2 e3 HLS1 HPL2
      clear HPL
      go_wp2_with fail
      go_still_tail 16, (by kernel_rfl)
      change wpList _ _ _ _ _ (World.drew _)
      have hI2 := hIr.drew 1
      go_wp2_with (go_at_call 20; (with_reducible refine (HLS1.out _).mono ?_); rintro e w3 ⟨rfl, hb3⟩; have hI3 := hI2.below hb3; have y30 := hI3.tab.cell 0; have x30 := hI3.box.cell 0; have x31 := hI3.box.cell 1; have x32 := hI3.box.cell 2; have x33 := hI3.box.cell 3; have e30 := (hb3.cell (p := ⟨fb, fo + q * 4, none⟩) (by exact Nat.lt_of_lt_of_le hfb hIr.bel.size)).trans e0; have e31 := (hb3.cell (p := ⟨fb, fo + q * 4 + 1, none⟩) (by exact Nat.lt_of_lt_of_le hfb hIr.bel.size)).trans e1; have e32 := (hb3.cell (p := ⟨fb, fo + q * 4 + 2, none⟩) (by exact Nat.lt_of_lt_of_le hfb hIr.bel.size)).trans e2; have e33 := (hb3.cell (p := ⟨fb, fo + q * 4 + 3, none⟩) (by exact Nat.lt_of_lt_of_le hfb hIr.bel.size)).trans e3; simp at y30 x30 x31 x32 x33)
      go_still_tail 8, (by kernel_rfl)
      change wpList _ _ _ _ _ (World.drew _)
      have hI4 := hI3.drew 1
      go_wp2_with (go_at_call 19; (with_reducible refine (HPL2.out _).mono ?_); rintro e w5 ⟨rfl, hb5⟩; have hI5 := hI4.below hb5)
      go_ret
      exact ⟨rfl, hI5.bel⟩

end Mt
end Go.Proofs.Ytgfpkbdinfdkfaa
