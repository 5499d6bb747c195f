import Derived.Test.YtpldfdlnhgmnaaaProg
import Derived.JoinedCond
import Derived.Below
import Derived.ProofKit
import Derived.Laws.IdiomArrays
import Derived.Test.YtpldfdlnhgmnaaaPart8
/-
  The laws' 'made' of chapter 11: what edits make of nothing, those left out that are refused.
-/
namespace Go.Proofs.Ytpldfdlnhgmnaaa
open Go.RowKit
set_option linter.unusedSimpArgs false
set_option linter.unusedVariables false
namespace Mf
open Md10 (setCell_self)
theorem Obj.set7 {W : World} {b : Nat} {t : TypeId} {x0 x1 x2 x3 x4 x5 x6 : Value} (h : Ob.Obj W b t [x0, x1, x2, x3, x4, x5, x6]) (y0 y1 y2 y3 y4 y5 y6 : Value) : Ob.Obj (((((((W.setCell ⟨b, 0, none⟩ y0).setCell ⟨b, 1, none⟩ y1).setCell ⟨b, 2, none⟩ y2).setCell ⟨b, 3, none⟩ y3).setCell ⟨b, 4, none⟩ y4).setCell ⟨b, 5, none⟩ y5).setCell ⟨b, 6, none⟩ y6) b t [y0, y1, y2, y3, y4, y5, y6] :=
  ((((((h.set 0 y0).set 1 y1).set 2 y2).set 3 y3).set 4 y4).set 5 y5).set 6 y6
theorem Obj.other7 {W : World} {b r : Nat} {t : TypeId} {xs : List Value} (h : Ob.Obj W r t xs) (hne : r ≠ b) (y0 y1 y2 y3 y4 y5 y6 : Value) : Ob.Obj (((((((W.setCell ⟨b, 0, none⟩ y0).setCell ⟨b, 1, none⟩ y1).setCell ⟨b, 2, none⟩ y2).setCell ⟨b, 3, none⟩ y3).setCell ⟨b, 4, none⟩ y4).setCell ⟨b, 5, none⟩ y5).setCell ⟨b, 6, none⟩ y6) r t xs := by
  have k : ∀ (W : World) (o : Nat) (y : Value), Ob.Obj W r t xs → Ob.Obj (W.setCell ⟨b, o, none⟩ y) r t xs := fun W o y h => h.kept (T := fun x => x ≠ b) (Sq.Kept.setCell (T := fun x => x ≠ b) (p := ⟨b, o, none⟩) W y (by simp)) hne
  exact k _ _ _ (k _ _ _ (k _ _ _ (k _ _ _ (k _ _ _ (k _ _ _ (k _ _ _ h))))))
theorem kept7 (W : World) (b : Nat) (y0 y1 y2 y3 y4 y5 y6 : Value) : Sq.Kept (fun x => x ≠ b) W (((((((W.setCell ⟨b, 0, none⟩ y0).setCell ⟨b, 1, none⟩ y1).setCell ⟨b, 2, none⟩ y2).setCell ⟨b, 3, none⟩ y3).setCell ⟨b, 4, none⟩ y4).setCell ⟨b, 5, none⟩ y5).setCell ⟨b, 6, none⟩ y6) := by
  have k : ∀ (W : World) (o : Nat) (y : Value), Sq.Kept (fun x => x ≠ b) W (W.setCell ⟨b, o, none⟩ y) := fun W o y => Sq.Kept.setCell (T := fun x => x ≠ b) (p := ⟨b, o, none⟩) W y (by simp)
  exact ((((((k _ _ _).trans (k _ _ _)).trans (k _ _ _)).trans (k _ _ _)).trans (k _ _ _)).trans (k _ _ _)).trans (k _ _ _)
theorem LvO.kept {B : Nat} {t : List (List Tbl)} {u : Nat → Value} {W W2 : World} (h : LvO B t u W) {b : Nat} (hk : Sq.Kept (fun x => x ≠ b) W W2) (hb : b < B) : LvO B t u W2 :=
  ⟨fun k hk4 => Sq.row_kept (h.row k hk4) hk (fun r hr => by have := (Ob.row_lt (h.row k hk4) hr).1; omega), h.dis, h.four⟩
theorem LvO.set7 {B : Nat} {t : List (List Tbl)} {u : Nat → Value} {W : World} (h : LvO B t u W) {b : Nat} (hb : b < B) (y0 y1 y2 y3 y4 y5 y6 : Value) : LvO B t u (((((((W.setCell ⟨b, 0, none⟩ y0).setCell ⟨b, 1, none⟩ y1).setCell ⟨b, 2, none⟩ y2).setCell ⟨b, 3, none⟩ y3).setCell ⟨b, 4, none⟩ y4).setCell ⟨b, 5, none⟩ y5).setCell ⟨b, 6, none⟩ y6) := by
  have k : ∀ (W : World) (o : Nat) (y : Value), LvO B t u W → LvO B t u (W.setCell ⟨b, o, none⟩ y) := fun W o y h => h.kept (Sq.Kept.setCell (T := fun x => x ≠ b) (p := ⟨b, o, none⟩) W y (by simp)) hb
  exact k _ _ _ (k _ _ _ (k _ _ _ (k _ _ _ (k _ _ _ (k _ _ _ (k _ _ _ h))))))
theorem LvO.apart {B : Nat} {t : List (List Tbl)} {u : Nat → Value} {W W2 : World} (h : LvO B t u W) {b : Nat} (hk : Sq.Kept (fun x => x ≠ b) W W2) (hb : W.heap.size ≤ b) : LvO B t u W2 :=
  ⟨fun k hk4 => Sq.row_kept (h.row k hk4) hk (fun r hr => by have := (Ob.row_lt (h.row k hk4) hr).2; omega), h.dis, h.four⟩
/-- a Live that is four slices -/
def Slices (v : Nat → Value) (a0 a1 a2 a3 : Option Addr) (n0 n1 n2 n3 c0 c1 c2 c3 : Nat) : Prop := v 0 = .slice a0 n0 c0 ∧ v 1 = .slice a1 n1 c1 ∧ v 2 = .slice a2 n2 c2 ∧ v 3 = .slice a3 n3 c3
theorem LvO.slices {B : Nat} {t : List (List Tbl)} {v : Nat → Value} {W : World} (h : LvO B t v W) : ∃ a0 a1 a2 a3 n0 n1 n2 n3 c0 c1 c2 c3, Slices v a0 a1 a2 a3 n0 n1 n2 n3 c0 c1 c2 c3 := by
  obtain ⟨a0, c0, h0, _⟩ := Sq.row_cases (h.row 0 (by omega))
  obtain ⟨a1, c1, h1, _⟩ := Sq.row_cases (h.row 1 (by omega))
  obtain ⟨a2, c2, h2, _⟩ := Sq.row_cases (h.row 2 (by omega))
  obtain ⟨a3, c3, h3, _⟩ := Sq.row_cases (h.row 3 (by omega))
  exact ⟨a0, a1, a2, a3, _, _, _, _, c0, c1, c2, c3, h0, h1, h2, h3⟩
/-- behind an Apply: the new Live in a box of its own -/
def Appd (wo : World) (l : Lv) (e : Ed) (p c : Value) (W : World) : Prop := ∃ (nb : Nat) (v : Nat → Value), p = .pointer (some ⟨nb, 0, none⟩) ∧ c = .int .i64 (appC l e) ∧ Ob.Obj W nb 27 [.int .u64 (appL l e).next, .int .u64 (appL l e).seq, .int .u64 (appL l e).log, v 0, v 1, v 2, v 3] ∧ LvO wo.heap.size (appL l e).t v W ∧ Below wo.heap.size wo W ∧ wo.heap.size ≤ nb
/-- between the rounds: what lies in the box -/
structure MdI (B bl : Nat) (w : World) (l : Lv) (v : Nat → Value) (W : World) : Prop where
  box : Ob.Obj W bl 27 [.int .u64 l.next, .int .u64 l.seq, .int .u64 l.log, v 0, v 1, v 2, v 3]
  rows : LvO B l.t v W
  bel : Below w.heap.size w W

set_option maxRecDepth 100000 in
set_option maxHeartbeats 4000000 in
theorem madeR_any (a : Option Addr) (cap : Nat) (es : List Ed) (b off : Nat) (w : World) (hE : EdsIn w a es b off) :
    Calls Try.prog 19 #[.slice a es.length cap] w fun r w' => ∃ v : Nat → Value, r = .returned (lvV (madeP es) (v 0) (v 1) (v 2) (v 3)) ∧ LvO w.heap.size (madeP es).t v w' ∧ Below w.heap.size w w' := by
  have HE := Lib.hid hE
  have ha := hE.base
  have hmany := hE.many
  clear hE
  obtain ⟨wA, hA⟩ : ∃ wA, w.alloc (.cells #[.int .u64 0, .int .u64 0, .int .u64 0, .slice none 0 0, .slice none 0 0, .slice none 0 0, .slice none 0 0] 27) = wA := ⟨_, rfl⟩
  obtain ⟨bl, hbl⟩ : ∃ j, wA.heap.size = j := ⟨_, rfl⟩
  obtain ⟨wB, hB⟩ : ∃ wB, wA.alloc (.cells #[.int .u64 0, .int .u64 0, .int .u64 0, .slice none 0 0, .slice none 0 0, .slice none 0 0, .slice none 0 0] 27) = wB := ⟨_, rfl⟩
  have bA : Below w.heap.size w wA := by rw [← hA]; exact (Below.refl _ _).alloc (Nat.le_refl _) _
  have bB : Below w.heap.size w wB := by rw [← hB]; exact bA.alloc bA.size _
  have rA : Ob.Obj wA w.heap.size 27 [.int .u64 0, .int .u64 0, .int .u64 0, .slice none 0 0, .slice none 0 0, .slice none 0 0, .slice none 0 0] := by rw [← hA]; exact Ob.Obj.new w _ _
  have rB : Ob.Obj wB w.heap.size 27 [.int .u64 0, .int .u64 0, .int .u64 0, .slice none 0 0, .slice none 0 0, .slice none 0 0, .slice none 0 0] := by rw [← hB]; exact rA.alloc _
  have zB : Ob.Obj wB bl 27 [.int .u64 0, .int .u64 0, .int .u64 0, .slice none 0 0, .slice none 0 0, .slice none 0 0, .slice none 0 0] := by rw [← hB, ← hbl]; exact Ob.Obj.new wA _ _
  have hbr := rA.lt
  rw [hbl] at hbr
  have r0 := zB.cell 0; have f0 := zB.frozen 0; have r1 := zB.cell 1; have f1 := zB.frozen 1; have r2 := zB.cell 2; have f2 := zB.frozen 2; have r3 := zB.cell 3; have f3 := zB.frozen 3; have r4 := zB.cell 4; have f4 := zB.frozen 4; have r5 := zB.cell 5; have f5 := zB.frozen 5; have r6 := zB.cell 6; have f6 := zB.frozen 6; simp at r0 r1 r2 r3 r4 r5 r6
  have HM0 := Lib.hid (show MdI (bl + 1) bl w lv0 (fun _ => .slice none 0 0) wB from ⟨zB, LvO.nil _ _, bB⟩)
  have HRB := Lib.hid rB
  go_enter Try.func19, Try.ntmps19
  go_wp2_with fail
  rw [setCell_self r0, setCell_self r1, setCell_self r2, setCell_self r3, setCell_self r4, setCell_self r5, setCell_self r6]
  clear r0 r1 r2 r3 r4 r5 r6 f0 f1 f2 f3 f4 f5 f6 zB rA rB bA bB hA hB
  go_loopw [4] (fun i wr => ∃ (q : Nat) (v : Nat → Value), q ≤ es.length ∧ i = .int .i64 (q : Int) ∧ Hid (MdI (bl + 1) bl w (madeP (es.take q)) v wr) ∧ Hid (Ob.Obj wr w.heap.size 27 [.int .u64 0, .int .u64 0, .int .u64 0, .slice none 0 0, .slice none 0 0, .slice none 0 0, .slice none 0 0])) (fun i _ => es.length - (intOf i).toNat)
  case atStart => exact ⟨0, _, Nat.zero_le _, rfl, HM0, HRB⟩
  case round =>
    clear HM0 HRB
    obtain ⟨q, v, hq, rfl, HM, HRB⟩ := hrel
    obtain ⟨wo, rfl⟩ : ∃ wo : World, wo = wr := ⟨_, rfl⟩
    by_cases hlt : q < es.length
    · obtain ⟨rfl, hbz⟩ := ha (by omega)
      obtain ⟨av, dv, e0, e1, e2, e3, e4, hEd, hDc⟩ := HE.out.each q hlt
      have hb := HM.out.bel
      have e0 := (hb.cell (p := ⟨b, off + q * 5, none⟩) hbz).trans e0
      have e1 := (hb.cell (p := ⟨b, off + q * 5 + 1, none⟩) hbz).trans e1
      have e2 := (hb.cell (p := ⟨b, off + q * 5 + 2, none⟩) hbz).trans e2
      have e3 := (hb.cell (p := ⟨b, off + q * 5 + 3, none⟩) hbz).trans e3
      have e4 := (hb.cell (p := ⟨b, off + q * 5 + 4, none⟩) hbz).trans e4
      have HMD := Lib.hid (madeOk _ (es.take q) rfl)
      have HSN := Lib.hid (show madeP (es.take (q + 1)) = (if appC (madeP (es.take q)) es[q] = 0 then appL (madeP (es.take q)) es[q] else madeP (es.take q)) by rw [List.take_succ_eq_append_getElem hlt, madeP_snoc])
      have hsum : ((es.take q).map (·.add.length)).sum + es[q].add.length ≤ 1048576 := by
        have h1 := sum_take_le (es.map (·.add.length)) (q + 1)
        rw [← List.map_take, List.take_succ_eq_append_getElem hlt, List.map_append, List.sum_append] at h1
        have h2 : ([es[q]].map (·.add.length)).sum = es[q].add.length := by simp
        rw [h2] at h1
        have := HE.out.adds
        omega
      have HSUM := Lib.hid hsum
      clear hsum
      generalize madeP (es.take q) = l at *
      generalize es[q] = e at *
      obtain ⟨m0, m1, m2, m3, k0, k1, k2, k3, d0, d1, d2, d3, hu⟩ := HM.out.rows.slices
      have hbx := HM.out.box
      rw [hu.1, hu.2.1, hu.2.2.1, hu.2.2.2] at hbx
      have HAP := Lib.hid (fun W (h : Below wo.heap.size wo W) => show Calls Try.prog 10 #[.agg #[.int .u64 l.next, .int .u64 l.seq, .int .u64 l.log, .slice m0 k0 d0, .slice m1 k1 d1, .slice m2 k2 d2, .slice m3 k3 d3], .agg #[.int .u64 e.next, .int .u64 e.seq, .int .u64 e.log, av, dv]] W fun r w' => ∃ v : Nat → Value, r = .returned (.tuple #[lvV (appL l e) (v 0) (v 1) (v 2) (v 3), .int .i64 (appC l e)]) ∧ LvO W.heap.size (appL l e).t v w' ∧ Below W.heap.size W w' from by
        have h0 := (HM.out.rows.below h).live (fun r hr => by have := HMD.out.len r hr; have := HSUM.out; omega) l.next l.seq l.log
        rw [hu.1, hu.2.1, hu.2.2.1, hu.2.2.2] at h0
        exact applyR_any l _ _ _ _ e av dv W h0 (hEd.at (hb.trans (h.mono hb.size))) hDc (fun r hr => by have := HMD.out.len r hr; have := HSUM.out; omega))
      have o0 := hbx.cell 0
      have o1 := hbx.cell 1
      have o2 := hbx.cell 2
      have o3 := hbx.cell 3
      have o4 := hbx.cell 4
      have o5 := hbx.cell 5
      have o6 := hbx.cell 6
      simp at o0 o1 o2 o3 o4 o5 o6
      have hi3 : (0 : Int) ≤ (q : Int) ∧ (q : Int) < (es.length : Int) := by omega
      obtain ⟨aa, na, ca, rfl⟩ : ∃ a n c, av = .slice a n c := by obtain ⟨a, c, _, _, h, _⟩ := hEd.add; exact ⟨a, _, c, h⟩
      obtain ⟨da, nd, cd, rfl⟩ : ∃ a n c, dv = .slice a n c := by obtain ⟨a, c, _, _, h, _⟩ := hEd.drop; exact ⟨a, _, c, h⟩
      have hboz := hbx.lt
      have hbz2 : b < wo.heap.size := by have := hb.size; omega
      have HU := Lib.hid hu
      clear hu hEd hDc hb hbx HMD HSUM
      have hbA : Below wo.heap.size wo wo.drew := (Below.refl _ _).drew
      have hbB : Below wo.heap.size wo (wo.alloc (.cells #[.int .u64 0, .int .u64 0, .int .u64 0, .slice none 0 0, .slice none 0 0, .slice none 0 0, .slice none 0 0] 27)).drew := ((Below.refl _ _).alloc (Nat.le_refl _) _).drew
      go_upto_region 5 with fail
      go_cut [5, 6] from 14 to 22 (fun p c wx => Appd wo l e p c wx)
      case first =>
        go_region_with (first
          | (go_at_call 10; (with_reducible refine (HAP.out _ hbA).mono ?_); rintro r w7 ⟨v7, rfl, hO7, hb7⟩; obtain ⟨p0, p1, p2, p3, j0, j1, j2, j3, r0, r1, r2, r3, hs7⟩ := hO7.slices; unfold lvV; rw [hs7.1, hs7.2.1, hs7.2.2.1, hs7.2.2.2]; have zz := Ob.Obj.new w7 27 [.int .u64 0, .int .u64 0, .int .u64 0, .slice none 0 0, .slice none 0 0, .slice none 0 0, .slice none 0 0]; have y0 := zz.cell 0; have f0 := zz.frozen 0; have y1 := zz.cell 1; have f1 := zz.frozen 1; have y2 := zz.cell 2; have f2 := zz.frozen 2; have y3 := zz.cell 3; have f3 := zz.frozen 3; have y4 := zz.cell 4; have f4 := zz.frozen 4; have y5 := zz.cell 5; have f5 := zz.frozen 5; have y6 := zz.cell 6; have f6 := zz.frozen 6; simp at y0 y1 y2 y3 y4 y5 y6; have hfr := show w7.heap.size = w7.heap.size from rfl)
          | (go_at_call 10; (with_reducible refine (HAP.out _ hbB).mono ?_); rintro r w7 ⟨v7, rfl, hO7, hb7⟩; obtain ⟨p0, p1, p2, p3, j0, j1, j2, j3, r0, r1, r2, r3, hs7⟩ := hO7.slices; unfold lvV; rw [hs7.1, hs7.2.1, hs7.2.2.1, hs7.2.2.2]; have zz := (show Ob.Obj (wo.alloc (.cells #[.int .u64 0, .int .u64 0, .int .u64 0, .slice none 0 0, .slice none 0 0, .slice none 0 0, .slice none 0 0] 27)).drew wo.heap.size 27 [.int .u64 0, .int .u64 0, .int .u64 0, .slice none 0 0, .slice none 0 0, .slice none 0 0, .slice none 0 0] from Ob.Obj.new wo _ _).below hb7; have y0 := zz.cell 0; have f0 := zz.frozen 0; have y1 := zz.cell 1; have f1 := zz.frozen 1; have y2 := zz.cell 2; have f2 := zz.frozen 2; have y3 := zz.cell 3; have f3 := zz.frozen 3; have y4 := zz.cell 4; have f4 := zz.frozen 4; have y5 := zz.cell 5; have f5 := zz.frozen 5; have y6 := zz.cell 6; have f6 := zz.frozen 6; simp at y0 y1 y2 y3 y4 y5 y6))
        all_goals (try go_wp2_with fail)
        all_goals go_meet
        all_goals (first
          | (have hb8 : Below wo.heap.size wo w7 := hbA.trans (hb7.mono (Nat.le_refl _))
             have hO8 : LvO wo.heap.size (appL l e).t v7 (w7.alloc (.cells #[.int .u64 (appL l e).next, .int .u64 (appL l e).seq, .int .u64 (appL l e).log, .slice p0 j0 r0, .slice p1 j1 r1, .slice p2 j2 r2, .slice p3 j3 r3] 27)) := LvO.below hO7 ((Below.refl _ _).alloc (Nat.le_refl _) _)
             exact ⟨w7.heap.size, v7, rfl, rfl, by rw [hs7.1, hs7.2.1, hs7.2.2.1, hs7.2.2.2]; exact Ob.Obj.new w7 _ _, hO8, hb8.alloc hb8.size _, hb8.size⟩)
          | (have hb8 : Below wo.heap.size wo w7 := hbB.trans (hb7.mono (by show wo.heap.size ≤ (wo.alloc _).heap.size; rw [World.size_alloc]; omega))
             refine ⟨wo.heap.size, v7, rfl, rfl, by rw [hs7.1, hs7.2.1, hs7.2.2.1, hs7.2.2.2]; exact Obj.set7 zz (.int .u64 (appL l e).next) (.int .u64 (appL l e).seq) (.int .u64 (appL l e).log) (.slice p0 j0 r0) (.slice p1 j1 r1) (.slice p2 j2 r2) (.slice p3 j3 r3), (LvO.set7 hO7 (by show wo.heap.size < (wo.alloc _).heap.size; rw [World.size_alloc]; omega) (.int .u64 (appL l e).next) (.int .u64 (appL l e).seq) (.int .u64 (appL l e).log) (.slice p0 j0 r0) (.slice p1 j1 r1) (.slice p2 j2 r2) (.slice p3 j3 r3)).lower (by show wo.heap.size ≤ (wo.alloc _).heap.size; rw [World.size_alloc]; omega), below7 hb8 (Nat.le_refl _) (.int .u64 (appL l e).next) (.int .u64 (appL l e).seq) (.int .u64 (appL l e).log) (.slice p0 j0 r0) (.slice p1 j1 r1) (.slice p2 j2 r2) (.slice p3 j3 r3), Nat.le_refl _⟩))
      case rest =>
        obtain ⟨nb, v', rfl, rfl, hx, hO, hbel, hnb⟩ := hcut
        have HM3 := Lib.hid (show MdI (bl + 1) bl w l v wc from ⟨HM.out.box.below hbel, HM.out.rows.below hbel, HM.out.bel.trans (hbel.mono HM.out.bel.size)⟩)
        have HRB3 := Lib.hid (HRB.out.below hbel)
        obtain ⟨p0, p1, p2, p3, j0, j1, j2, j3, r0, r1, r2, r3, hs7⟩ := hO.slices
        have HS7 := Lib.hid hs7
        rw [hs7.1, hs7.2.1, hs7.2.2.1, hs7.2.2.2] at hx
        have HO := Lib.hid hO
        have hnbz := hx.lt
        have hblz : bl < wc.heap.size := HM3.out.box.lt
        clear o0 o1 o2 o3 o4 o5 o6 hbA hbB hO hs7 hbel HM HRB hi3
        by_cases h0 : appC l e = 0
        · have HSN2 : Hid (madeP (es.take (q + 1)) = appL l e) := HSN.out.trans (if_pos h0)
          have y0 := hx.cell 0; have y1 := hx.cell 1; have y2 := hx.cell 2; have y3 := hx.cell 3; have y4 := hx.cell 4; have y5 := hx.cell 5; have y6 := hx.cell 6; simp at y0 y1 y2 y3 y4 y5 y6
          have hbx := HM3.out.box
          rw [HU.out.1, HU.out.2.1, HU.out.2.2.1, HU.out.2.2.2] at hbx
          have o0 := hbx.cell 0; have f0 := hbx.frozen 0; have o1 := hbx.cell 1; have f1 := hbx.frozen 1; have o2 := hbx.cell 2; have f2 := hbx.frozen 2; have o3 := hbx.cell 3; have f3 := hbx.frozen 3; have o4 := hbx.cell 4; have f4 := hbx.frozen 4; have o5 := hbx.cell 5; have f5 := hbx.frozen 5; have o6 := hbx.cell 6; have f6 := hbx.frozen 6; simp at o0 o1 o2 o3 o4 o5 o6
          clear hbx hx HSN
          have h0d : (appC l e == 0) = true := by simp [h0]
          go_wp2_with fail
          have hM : MdI (bl + 1) bl w (appL l e) v' _ := ⟨by rw [HS7.out.1, HS7.out.2.1, HS7.out.2.2.1, HS7.out.2.2.2]; exact Obj.set7 HM3.out.box (.int .u64 (appL l e).next) (.int .u64 (appL l e).seq) (.int .u64 (appL l e).log) (.slice p0 j0 r0) (.slice p1 j1 r1) (.slice p2 j2 r2) (.slice p3 j3 r3), (HO.out.set7 hboz (.int .u64 (appL l e).next) (.int .u64 (appL l e).seq) (.int .u64 (appL l e).log) (.slice p0 j0 r0) (.slice p1 j1 r1) (.slice p2 j2 r2) (.slice p3 j3 r3)).lower (by omega), below7 HM3.out.bel (by omega) (.int .u64 (appL l e).next) (.int .u64 (appL l e).seq) (.int .u64 (appL l e).log) (.slice p0 j0 r0) (.slice p1 j1 r1) (.slice p2 j2 r2) (.slice p3 j3 r3)⟩
          have hR := Obj.other7 HRB3.out (show w.heap.size ≠ bl by omega) (.int .u64 (appL l e).next) (.int .u64 (appL l e).seq) (.int .u64 (appL l e).log) (.slice p0 j0 r0) (.slice p1 j1 r1) (.slice p2 j2 r2) (.slice p3 j3 r3)
          go_roundw
          case rel => exact ⟨q + 1, v', by omega, by go_num, by rw [HSN2.out]; exact hM, hR⟩
          case measure => simp [intOf]; omega
        · have HSN2 : Hid (madeP (es.take (q + 1)) = l) := HSN.out.trans (if_neg h0)
          have h0d : (appC l e == 0) = false := by simpa using h0
          clear HSN hx
          go_wp2_with fail
          go_roundw
          case rel => exact ⟨q + 1, v, by omega, by go_num, by rw [HSN2.out]; exact HM3, HRB3.out⟩
          case measure => simp [intOf]; omega
    · obtain rfl : q = es.length := by omega
      have HM2 : Hid (MdI (bl + 1) bl w (madeP es) v wo) := by have := HM.out; rw [List.take_length] at this; exact this
      have hi3 : ¬ (es.length : Int) < (es.length : Int) := by omega
      clear HM
      obtain ⟨l, hl⟩ : ∃ l, madeP es = l := ⟨_, rfl⟩
      rw [hl] at HM2
      have HLE := Lib.hid hl
      clear hl
      obtain ⟨m0, k0, d0, hu0, _⟩ : ∃ a n c, v 0 = .slice a n c ∧ True := by obtain ⟨a, c, h, _⟩ := Sq.row_cases (HM2.out.rows.row 0 (by omega)); exact ⟨a, _, c, h, trivial⟩
      obtain ⟨m1, k1, d1, hu1, _⟩ : ∃ a n c, v 1 = .slice a n c ∧ True := by obtain ⟨a, c, h, _⟩ := Sq.row_cases (HM2.out.rows.row 1 (by omega)); exact ⟨a, _, c, h, trivial⟩
      obtain ⟨m2, k2, d2, hu2, _⟩ : ∃ a n c, v 2 = .slice a n c ∧ True := by obtain ⟨a, c, h, _⟩ := Sq.row_cases (HM2.out.rows.row 2 (by omega)); exact ⟨a, _, c, h, trivial⟩
      obtain ⟨m3, k3, d3, hu3, _⟩ : ∃ a n c, v 3 = .slice a n c ∧ True := by obtain ⟨a, c, h, _⟩ := Sq.row_cases (HM2.out.rows.row 3 (by omega)); exact ⟨a, _, c, h, trivial⟩
      have HU := Lib.hid (show v 0 = .slice m0 k0 d0 ∧ v 1 = .slice m1 k1 d1 ∧ v 2 = .slice m2 k2 d2 ∧ v 3 = .slice m3 k3 d3 from ⟨hu0, hu1, hu2, hu3⟩)
      have hbx := HM2.out.box
      rw [hu0, hu1, hu2, hu3] at hbx
      have o0 := hbx.cell 0
      have o1 := hbx.cell 1
      have o2 := hbx.cell 2
      have o3 := hbx.cell 3
      have o4 := hbx.cell 4
      have o5 := hbx.cell 5
      have o6 := hbx.cell 6
      simp at o0 o1 o2 o3 o4 o5 o6
      have z := HRB.out
      have f0 := z.frozen 0; have f1 := z.frozen 1; have f2 := z.frozen 2; have f3 := z.frozen 3; have f4 := z.frozen 4; have f5 := z.frozen 5; have f6 := z.frozen 6; have r0 := z.cell 0; have r1 := z.cell 1; have r2 := z.cell 2; have r3 := z.cell 3; have r4 := z.cell 4; have r5 := z.cell 5; have r6 := z.cell 6; simp at r0 r1 r2 r3 r4 r5 r6
      clear hu0 hu1 hu2 hu3 hbx z
      go_wp2_with fail
      have hz := Obj.set7 HRB.out (.int .u64 l.next) (.int .u64 l.seq) (.int .u64 l.log) (.slice m0 k0 d0) (.slice m1 k1 d1) (.slice m2 k2 d2) (.slice m3 k3 d3)
      have hs := HM2.out.rows.set7 (b := w.heap.size) (by omega) (.int .u64 l.next) (.int .u64 l.seq) (.int .u64 l.log) (.slice m0 k0 d0) (.slice m1 k1 d1) (.slice m2 k2 d2) (.slice m3 k3 d3)
      have hb := below7 HM2.out.bel (r := w.heap.size) (Nat.le_refl _) (.int .u64 l.next) (.int .u64 l.seq) (.int .u64 l.log) (.slice m0 k0 d0) (.slice m1 k1 d1) (.slice m2 k2 d2) (.slice m3 k3 d3)
      have s0 := hz.cell 0
      have s1 := hz.cell 1
      have s2 := hz.cell 2
      have s3 := hz.cell 3
      have s4 := hz.cell 4
      have s5 := hz.cell 5
      have s6 := hz.cell 6
      simp at s0 s1 s2 s3 s4 s5 s6
      generalize (((((((wo.setCell ⟨w.heap.size, 0, none⟩ (.int .u64 l.next)).setCell ⟨w.heap.size, 1, none⟩ (.int .u64 l.seq)).setCell ⟨w.heap.size, 2, none⟩ (.int .u64 l.log)).setCell ⟨w.heap.size, 3, none⟩ (.slice m0 k0 d0)).setCell ⟨w.heap.size, 4, none⟩ (.slice m1 k1 d1)).setCell ⟨w.heap.size, 5, none⟩ (.slice m2 k2 d2)).setCell ⟨w.heap.size, 6, none⟩ (.slice m3 k3 d3)) = wZ at *
      exact bodyPost_ret (v := .agg #[.int .u64 l.next, .int .u64 l.seq, .int .u64 l.log, .slice m0 k0 d0, .slice m1 k1 d1, .slice m2 k2 d2, .slice m3 k3 d3]) (by simp [results, Try.results19, go_sem, s0, s1, s2, s3, s4, s5, s6]) rfl ⟨v, by rw [HU.out.1, HU.out.2.1, HU.out.2.2.1, HU.out.2.2.2, HLE.out]; rfl, by rw [HLE.out]; exact LvO.lower (B' := w.heap.size) hs (by omega), hb⟩
end Mf
end Go.Proofs.Ytpldfdlnhgmnaaa

/-
  The walk of the law CompactPicks.
-/
namespace Go.Proofs.Ytpldfdlnhgmnaaa
open Go.RowKit
set_option linter.unusedSimpArgs false
set_option linter.unusedVariables false
namespace Cp
open Op (bytesLess)
open Mf (Tbl Lv lvV LvIn Tbs TAt TblIn uA box_lev tcs tbs_of_own LvO Slices madeP madeOk MadeOk madeR_any EdsIn mayT)
open Md10 (setCell_self)
theorem _root_.Go.Proofs.Ytpldfdlnhgmnaaa.Mf.EdsIn.grow {W W' : World} {a : Option Addr} {es : List Mf.Ed} {b off : Nat} (h : EdsIn W a es b off) (hb : Below W.heap.size W W') : EdsIn W' a es b off := by
  refine ⟨fun h0 => ⟨(h.base h0).1, Nat.lt_of_lt_of_le (h.base h0).2 hb.size⟩, fun j hj => ?_, h.many, h.adds, h.drops⟩
  have hl := (h.base (by omega)).2
  obtain ⟨av, dv, g0, g1, g2, g3, g4, hE, hD⟩ := h.each j hj
  have c : ∀ o, W'.cell? ⟨b, o, none⟩ = W.cell? ⟨b, o, none⟩ := fun o => hb.cell (p := ⟨b, o, none⟩) hl
  exact ⟨av, dv, (c _).trans g0, (c _).trans g1, (c _).trans g2, (c _).trans g3, (c _).trans g4, ⟨hE.add.grow hb hb.size, hE.drop.grow hb hb.size, hE.each, hE.ds, hE.n0, hE.n1, hE.s0, hE.s1, hE.l0, hE.l1, hE.many, hE.few⟩, hD⟩
theorem made_siz {l : Lv} {M : Nat} (h : MadeOk l M) : ∀ r ∈ l.t, Siz r := by
  intro r hr x hx
  obtain ⟨k, hk, rfl⟩ := List.getElem_of_mem hr
  have h4 := h.t4.four
  have := (h.t4.lev k (by omega)).may x (by rw [List.getD_eq_getElem?_getD, List.getElem?_eq_getElem hk, Option.getD_some]; exact hx)
  unfold mayT at this
  simp only [Bool.and_eq_true, decide_eq_true_eq] at this
  omega
theorem made_in {l : Lv} {M : Nat} (h : MadeOk l M) : ∀ x, (∃ j, x ∈ l.t.getD j []) → TblIn x := by
  rintro x ⟨j, hx⟩
  have h4 := h.t4.four
  by_cases hj : j < 4
  · have := (h.t4.lev j hj).may x hx
    unfold mayT at this
    simp only [Bool.and_eq_true, decide_eq_true_eq] at this
    exact ⟨by omega, by omega, by omega, by omega, by omega, by omega, by omega, by omega, by omega, by omega⟩
  · rw [List.getD_eq_getElem?_getD, List.getElem?_eq_none (by omega), Option.getD_none] at hx
    cases hx
/-- amid the stores into the job's own rows -/
structure Zr (W5 : World) (M bj : Nat) (J : List Value) (wr : World) : Prop where
  rows : ∀ b cs, Ob.Obj W5 b 38 cs → ∃ cs', Ob.Obj wr b 38 cs' ∧ cs'.length = cs.length
  bel : Below M W5 wr
  box : Ob.Obj wr bj 56 J
theorem Zr.set {W5 : World} {M bj : Nat} {J : List Value} {wr : World} (h : Zr W5 M bj J wr) {b : Nat} (hb : M ≤ b) (hne : b ≠ bj) (o : Nat) (y : Value) : Zr W5 M bj J (wr.setCell ⟨b, o, none⟩ y) := by
  refine ⟨fun c cs hc => ?_, h.bel.setCell (p := ⟨b, o, none⟩) hb y, other1 h.box (fun e => hne e.symm) y⟩
  obtain ⟨cs', h1, h2⟩ := h.rows c cs hc
  by_cases e : c = b
  · subst e
    exact ⟨_, h1.set o y, by simp [h2]⟩
  · exact ⟨cs', other1 h1 e y, h2⟩

set_option maxRecDepth 1000000 in
set_option maxHeartbeats 40000000 in
theorem compactPicks_walk (c : Cfg) (a : Option Addr) (cap : Nat) (es : List Mf.Ed) (b off : Nat) (A : Nat → List UInt8) (w : World) (hE : EdsIn w a es b off) :
    Calls Try.prog 6 #[cfgV c, .slice a es.length cap, .agg #[.string (Cd.bs (A 0)), .string (Cd.bs (A 1)), .string (Cd.bs (A 2)), .string (Cd.bs (A 3))]] w fun e w' => e = .returned (.bool true) ∧ Below w.heap.size w w' := by
  have HE := Lib.hid (fun W (h : Below w.heap.size w W) => madeR_any a cap es b off W (hE.grow h))
  have HMD := Lib.hid (madeOk _ es rfl)
  have hadds := hE.adds
  obtain ⟨l, hl⟩ : ∃ l, madeP es = l := ⟨_, rfl⟩
  rw [hl] at HE HMD
  have hlens : ∀ r ∈ l.t, r.length ≤ 1048576 := fun r hr => Nat.le_trans (HMD.out.len r hr) hadds
  have hsz := made_siz HMD.out
  have HSZ := Lib.hid hsz
  have HIN : Hid (∀ x, (∃ j, x ∈ l.t.getD j []) → TblIn x) := made_in HMD.out
  have HSC := Lib.hid (fun (u0 u1 u2 u3 : Value) (k : Int) (W : World) (h : LvIn W.heap.size W l u0 u1 u2 u3) => score_any c l u0 u1 u2 u3 k W h hsz)
  have HSR := Lib.hid (fun (u0 u1 u2 u3 : Value) (k : Int) (W : World) (h : LvIn W.heap.size W l u0 u1 u2 u3) => scoreR_any c l u0 u1 u2 u3 k W h hsz)
  have HPI := Lib.hid (fun a0 a1 a2 a3 n0 n1 n2 n3 c0 c1 c2 c3 (W : World) (h : LvIn W.heap.size W l (.slice a0 n0 c0) (.slice a1 n1 c1) (.slice a2 n2 c2) (.slice a3 n3 c3)) hf => pick_any c l a0 a1 a2 a3 n0 n1 n2 n3 c0 c1 c2 c3 A W h hsz hf HIN)
  have HPR := Lib.hid (fun a0 a1 a2 a3 n0 n1 n2 n3 c0 c1 c2 c3 (W : World) (h : LvIn W.heap.size W l (.slice a0 n0 c0) (.slice a1 n1 c1) (.slice a2 n2 c2) (.slice a3 n3 c3)) hf => pickR_any c l a0 a1 a2 a3 n0 n1 n2 n3 c0 c1 c2 c3 A W h hsz hf)
  obtain ⟨⟨jb, due⟩, hpk⟩ : ∃ p, pickP c l.t A = p := ⟨_, rfl⟩
  rw [hpk] at HPI HPR
  have hjl : jb.src.length ≤ 4194304 ∧ jb.dst.length ≤ 4194304 := by
    have h0 : (pickP c l.t A).1 = jb := by rw [hpk]
    unfold pickP at h0
    split at h0
    · rw [← h0]; simp
    · rw [← h0]
      exact ⟨Nat.le_trans (srcP_len (by decide) hlens _ _) (by decide), Nat.le_trans (dstP_len hlens _ _) (by decide)⟩
  clear hE hadds hpk hl hsz
  obtain ⟨x0, x1, x2, x3, x4, x5, x6, x7⟩ := c
  unfold cfgV lvV at *
  simp only at *
  obtain ⟨wA, hA⟩ : ∃ wA, w.alloc (.cells #[.int .i64 x0, .int .i64 x1, .int .i64 x2, .int .i64 x3, .int .i64 x4, .int .i64 x5, .int .i64 x6, .int .u64 x7] 50) = wA := ⟨_, rfl⟩
  have bA : Below w.heap.size w wA := by rw [← hA]; exact (Below.refl _ _).alloc (Nat.le_refl _) _
  have xA : Ob.Obj wA w.heap.size 50 [.int .i64 x0, .int .i64 x1, .int .i64 x2, .int .i64 x3, .int .i64 x4, .int .i64 x5, .int .i64 x6, .int .u64 x7] := by rw [← hA]; exact Ob.Obj.new w _ [.int .i64 x0, .int .i64 x1, .int .i64 x2, .int .i64 x3, .int .i64 x4, .int .i64 x5, .int .i64 x6, .int .u64 x7]
  obtain ⟨ba, hba⟩ : ∃ j, wA.heap.size = j := ⟨_, rfl⟩
  obtain ⟨wC, hC⟩ : ∃ wC, wA.alloc (.cells #[.string (Cd.bs (A 0)), .string (Cd.bs (A 1)), .string (Cd.bs (A 2)), .string (Cd.bs (A 3))] 51) = wC := ⟨_, rfl⟩
  have bC : Below w.heap.size w wC := by rw [← hC]; exact bA.alloc bA.size _
  have zC : Ob.Obj wC ba 51 [.string (Cd.bs (A 0)), .string (Cd.bs (A 1)), .string (Cd.bs (A 2)), .string (Cd.bs (A 3))] := by rw [← hC, ← hba]; exact Ob.Obj.new wA _ [.string (Cd.bs (A 0)), .string (Cd.bs (A 1)), .string (Cd.bs (A 2)), .string (Cd.bs (A 3))]
  have xC : Ob.Obj wC w.heap.size 50 [.int .i64 x0, .int .i64 x1, .int .i64 x2, .int .i64 x3, .int .i64 x4, .int .i64 x5, .int .i64 x6, .int .u64 x7] := by rw [← hC]; exact xA.alloc _
  clear bA xA
  go_enter Try.func6, Try.ntmps6
  go_upto_region 2 with (go_at_call 19; (with_reducible refine (HE.out _ bC).mono ?_); rintro e w1 ⟨v1, rfl, hO1, hb1⟩; obtain ⟨a0, a1, a2, a3, n0, n1, n2, n3, c0, c1, c2, c3, hs1⟩ := hO1.slices; rw [hs1.1, hs1.2.1, hs1.2.2.1, hs1.2.2.2])
  clear hA hC hba
  have hw1c := hb1.size
  obtain ⟨bl, hbl⟩ : ∃ j, w1.heap.size = j := ⟨_, rfl⟩
  obtain ⟨w1b, hw1b⟩ : ∃ wX, w1.alloc (.cells #[.int .u64 l.next, .int .u64 l.seq, .int .u64 l.log, .slice a0 n0 c0, .slice a1 n1 c1, .slice a2 n2 c2, .slice a3 n3 c3] 27) = wX := ⟨_, rfl⟩
  have hb1b : Below w1.heap.size w1 w1b := by rw [← hw1b]; exact (Below.refl _ _).alloc (Nat.le_refl _) _
  have bl1 : Ob.Obj w1b bl 27 [.int .u64 l.next, .int .u64 l.seq, .int .u64 l.log, .slice a0 n0 c0, .slice a1 n1 c1, .slice a2 n2 c2, .slice a3 n3 c3] := by rw [← hw1b, ← hbl]; exact Ob.Obj.new w1 _ _
  have b1b := bC.trans ((hb1.trans (hb1b.mono hb1.size)).mono bC.size)
  rw [hw1b, hbl]
  clear hw1b hbl
  go_upto_region 3 with (go_at_call 19; (with_reducible refine (HE.out _ b1b).mono ?_); rintro e w2 ⟨v2, rfl, hO2, hb2⟩; obtain ⟨ha0, ha1, ha2, ha3, hn0, hn1, hn2, hn3, hc0, hc1, hc2, hc3, hs2⟩ := hO2.slices; rw [hs2.1, hs2.2.1, hs2.2.2.1, hs2.2.2.2])
  obtain ⟨bh, hbh⟩ : ∃ j, w2.heap.size = j := ⟨_, rfl⟩
  obtain ⟨W2, hW2⟩ : ∃ wX, w2.alloc (.cells #[.int .u64 l.next, .int .u64 l.seq, .int .u64 l.log, .slice ha0 hn0 hc0, .slice ha1 hn1 hc1, .slice ha2 hn2 hc2, .slice ha3 hn3 hc3] 27) = wX := ⟨_, rfl⟩
  have hb2b : Below w2.heap.size w2 W2 := by rw [← hW2]; exact (Below.refl _ _).alloc (Nat.le_refl _) _
  have HBH := Lib.hid (show Ob.Obj W2 bh 27 [.int .u64 l.next, .int .u64 l.seq, .int .u64 l.log, .slice ha0 hn0 hc0, .slice ha1 hn1 hc1, .slice ha2 hn2 hc2, .slice ha3 hn3 hc3] by rw [← hW2, ← hbh]; exact Ob.Obj.new w2 _ _)
  have hb12 : Below w1b.heap.size w1b W2 := hb2.trans (hb2b.mono hb2.size)
  have HBL := Lib.hid (bl1.below hb12)
  have HB2 := Lib.hid (b1b.trans (hb12.mono b1b.size))
  have hbc1 : Below wC.heap.size wC w1b := hb1.trans (hb1b.mono hb1.size)
  have hbc2 : Below wC.heap.size wC W2 := hbc1.trans (hb12.mono hbc1.size)
  have HXC := Lib.hid (xC.below hbc2)
  have HZC := Lib.hid (zC.below hbc2)
  have HLO := Lib.hid ((hO1.below (hb1b.trans (hb12.mono hb1b.size))).lower (B' := w.heap.size) bC.size)
  have HHO := Lib.hid ((hO2.below hb2b).lower (B' := w.heap.size) b1b.size)
  have HU := Lib.hid hs1
  have HV := Lib.hid hs2
  have HLL := Lib.hid (show ∀ W, Below W2.heap.size W2 W → LvIn W.heap.size W l (.slice a0 n0 c0) (.slice a1 n1 c1) (.slice a2 n2 c2) (.slice a3 n3 c3) from fun W h => by have h0 := (HLO.out.below h).live hlens l.next l.seq l.log; rw [hs1.1, hs1.2.1, hs1.2.2.1, hs1.2.2.2] at h0; exact h0)
  have HHL := Lib.hid (show ∀ W, Below W2.heap.size W2 W → LvIn W.heap.size W l (.slice ha0 hn0 hc0) (.slice ha1 hn1 hc1) (.slice ha2 hn2 hc2) (.slice ha3 hn3 hc3) from fun W h => by have h0 := (HHO.out.below h).live hlens l.next l.seq l.log; rw [hs2.1, hs2.2.1, hs2.2.2.1, hs2.2.2.2] at h0; exact h0)
  have HF1 := Lib.hid (show FineV (.slice a0 n0 c0) ∧ FineV (.slice a1 n1 c1) ∧ FineV (.slice a2 n2 c2) ∧ FineV (.slice a3 n3 c3) from ⟨by rw [← hs1.1]; exact fine_of_row (HLO.out.row 0 (by omega)), by rw [← hs1.2.1]; exact fine_of_row (HLO.out.row 1 (by omega)), by rw [← hs1.2.2.1]; exact fine_of_row (HLO.out.row 2 (by omega)), by rw [← hs1.2.2.2]; exact fine_of_row (HLO.out.row 3 (by omega))⟩)
  have HF2 := Lib.hid (show hn0 ≤ hc0 ∧ hn1 ≤ hc1 ∧ hn2 ≤ hc2 ∧ hn3 ≤ hc3 from ⟨(show FineV (.slice ha0 hn0 hc0) by rw [← hs2.1]; exact fine_of_row (HHO.out.row 0 (by omega))) _ _ _ rfl |>.1, (show FineV (.slice ha1 hn1 hc1) by rw [← hs2.2.1]; exact fine_of_row (HHO.out.row 1 (by omega))) _ _ _ rfl |>.1, (show FineV (.slice ha2 hn2 hc2) by rw [← hs2.2.2.1]; exact fine_of_row (HHO.out.row 2 (by omega))) _ _ _ rfl |>.1, (show FineV (.slice ha3 hn3 hc3) by rw [← hs2.2.2.2]; exact fine_of_row (HHO.out.row 3 (by omega))) _ _ _ rfl |>.1⟩)
  rw [hW2, hbh]
  clear hW2 hbh hb2b bl1 hb12 b1b hbc1 hbc2 xC zC hO1 hO2 hs1 hs2 hb1 hb1b hb2 bC hw1c HE HMD
  go_wp2_with fail
  go_loopw [9] (fun i wr => ∃ k : Int, -1 ≤ k ∧ k ≤ 5 ∧ i = .int .i64 k ∧ Below W2.heap.size W2 wr) (fun i _ => (5 - intOf i).toNat)
  case atStart => exact ⟨-1, by omega, by omega, rfl, Below.refl _ _⟩
  case round =>
    obtain ⟨k, hk1, hk2, rfl, hB⟩ := hrel
    obtain ⟨wo, rfl⟩ : ∃ wo : World, wo = wr := ⟨_, rfl⟩
    have xk := HXC.out.below hB
    have k0 := xk.cell 0; have k1 := xk.cell 1; have k2 := xk.cell 2; have k3 := xk.cell 3; have k4 := xk.cell 4; have k5 := xk.cell 5; have k6 := xk.cell 6; have k7 := xk.cell 7; simp at k0 k1 k2 k3 k4 k5 k6 k7
    have hxz := xk.lt
    have yk := HBL.out.below hB
    have l0 := yk.cell 0; have l1 := yk.cell 1; have l2 := yk.cell 2; have l3 := yk.cell 3; have l4 := yk.cell 4; have l5 := yk.cell 5; have l6 := yk.cell 6; simp at l0 l1 l2 l3 l4 l5 l6
    have hyz := yk.lt
    by_cases hlt : k < 5
    · have hS1 := Lib.hid (HSC.out _ _ _ _ k wo (HLL.out wo hB))
      have HHK := Lib.hid (fun W (h : Below wo.heap.size wo W) => HSR.out _ _ _ _ k W (HHL.out W (hB.trans (h.mono hB.size))))
      obtain ⟨s1, hs1⟩ : ∃ s, (scoreP ⟨x0, x1, x2, x3, x4, x5, x6, x7⟩ l.t k).1 = s := ⟨_, rfl⟩
      obtain ⟨s2, hs2⟩ : ∃ s, (scoreP ⟨x0, x1, x2, x3, x4, x5, x6, x7⟩ l.t k).2 = s := ⟨_, rfl⟩
      rw [hs1, hs2] at hS1 HHK
      have HXK := Lib.hid xk
      have HHB := Lib.hid (HBH.out.below hB)
      clear hs1 hs2 xk yk
      go_wp2_with (first
        | (go_at_call 20; (with_reducible refine hS1.out.mono ?_); rintro e w4 ⟨rfl, hb4⟩; have x4k := HXK.out.below hb4; have k0 := x4k.cell 0; have k1 := x4k.cell 1; have k2 := x4k.cell 2; have k3 := x4k.cell 3; have k4 := x4k.cell 4; have k5 := x4k.cell 5; have k6 := x4k.cell 6; have k7 := x4k.cell 7; simp at k0 k1 k2 k3 k4 k5 k6 k7; have hxz := x4k.lt; have h4k := HHB.out.below hb4; have l0 := h4k.cell 0; have l1 := h4k.cell 1; have l2 := h4k.cell 2; have l3 := h4k.cell 3; have l4 := h4k.cell 4; have l5 := h4k.cell 5; have l6 := h4k.cell 6; simp at l0 l1 l2 l3 l4 l5 l6; have hyz := h4k.lt)
        | (go_at_call 21; (with_reducible refine (HHK.out _ hb4).mono ?_); rintro e w5 ⟨rfl, hb5⟩))
      go_roundw
      case rel => exact ⟨k + 1, by omega, by omega, by go_num, hB.trans ((hb4.trans (hb5.mono hb4.size)).mono hB.size)⟩
      case measure => simp [intOf]; omega
    · obtain rfl : k = 5 := by omega
      have za := HZC.out.below hB
      have z0 := za.cell 0; have z1 := za.cell 1; have z2 := za.cell 2; have z3 := za.cell 3; simp at z0 z1 z2 z3
      have hzz := za.lt
      have HPK1 := Lib.hid (HPI.out a0 a1 a2 a3 n0 n1 n2 n3 c0 c1 c2 c3 wo (HLL.out wo hB) HF1)
      have HPK2 := Lib.hid (fun W (h : Below wo.heap.size wo W) => HPR.out ha0 ha1 ha2 ha3 hn0 hn1 hn2 hn3 hc0 hc1 hc2 hc3 W (HHL.out W (hB.trans (h.mono hB.size))) HF2.out)
      obtain ⟨lev, XL, YL, bot⟩ := jb
      simp only at hjl
      unfold jobV at HPK1 HPK2
      simp only at HPK1 HPK2
      have HXK := Lib.hid xk
      have HZK := Lib.hid za
      have HHB := Lib.hid (HBH.out.below hB)
      have HBB := Lib.hid hB
      clear xk yk za HSC HSR HPI HPR hB
      go_upto_region 11 with (go_at_call 22; (with_reducible refine HPK1.out.mono ?_); rintro e w10 ⟨vx, vy, rfl, hx, hy, hb10⟩; obtain ⟨ax, cx, rfl, _⟩ := Sq.row_cases hx; obtain ⟨ay, cy, rfl, _⟩ := Sq.row_cases hy)
      clear k0 k1 k2 k3 k4 k5 k6 k7 l0 l1 l2 l3 l4 l5 l6 z0 z1 z2 z3 hxz hyz hzz HPK1
      obtain ⟨bj, hbj⟩ : ∃ j, w10.heap.size = j := ⟨_, rfl⟩
      obtain ⟨w11, hw11⟩ : ∃ wX, w10.alloc (.cells #[.int .i64 lev, .slice ax XL.length cx, .slice ay YL.length cy, .bool bot] 56) = wX := ⟨_, rfl⟩
      have hb11 : Below w10.heap.size w10 w11 := by rw [← hw11]; exact (Below.refl _ _).alloc (Nat.le_refl _) _
      have HBJ := Lib.hid (show Ob.Obj w11 bj 56 [.int .i64 lev, .slice ax XL.length cx, .slice ay YL.length cy, .bool bot] by rw [← hw11, ← hbj]; exact Ob.Obj.new w10 _ _)
      have HX11 := Lib.hid (own_below hx hb11)
      have HY11 := Lib.hid (own_below hy hb11)
      have hgx : ∀ r, (Value.slice ax XL.length cx).ownBlock = some r → W2.heap.size ≤ r ∧ r ≠ bj := fun r hr => by have h1 := Ob.row_lt hx hr; have h2 := HBB.out.size; omega
      have hgy : ∀ r, (Value.slice ay YL.length cy).ownBlock = some r → W2.heap.size ≤ r ∧ r ≠ bj := fun r hr => by have h1 := Ob.row_lt hy hr; have h2 := HBB.out.size; omega
      have HGX := Lib.hid hgx
      have HGY := Lib.hid hgy
      have hbo11 : Below wo.heap.size wo w11 := hb10.trans (hb11.mono hb10.size)
      have HO11 := Lib.hid hbo11
      have HB11 := Lib.hid (HBB.out.trans (hbo11.mono HBB.out.size))
      rw [hw11, hbj]
      have xk := HXK.out.below hbo11
      have k0 := xk.cell 0; have k1 := xk.cell 1; have k2 := xk.cell 2; have k3 := xk.cell 3; have k4 := xk.cell 4; have k5 := xk.cell 5; have k6 := xk.cell 6; have k7 := xk.cell 7; simp at k0 k1 k2 k3 k4 k5 k6 k7
      have hxz := xk.lt
      have yk := HHB.out.below hbo11
      have l0 := yk.cell 0; have l1 := yk.cell 1; have l2 := yk.cell 2; have l3 := yk.cell 3; have l4 := yk.cell 4; have l5 := yk.cell 5; have l6 := yk.cell 6; simp at l0 l1 l2 l3 l4 l5 l6
      have hyz := yk.lt
      have za := HZK.out.below hbo11
      have z0 := za.cell 0; have z1 := za.cell 1; have z2 := za.cell 2; have z3 := za.cell 3; simp at z0 z1 z2 z3
      have hzz := za.lt
      clear hw11 hbj hb11 hx hy hb10 hgx hgy hbo11 xk yk za
      go_upto_region 12 with (go_at_call 23; (with_reducible refine (HPK2.out _ HO11.out).mono ?_); rintro e w12 ⟨ux, uy, rfl, hx, hy, hb12⟩; obtain ⟨px, qx, rfl, _⟩ := Sq.row_cases hx; obtain ⟨py, qy, rfl, _⟩ := Sq.row_cases hy)
      clear k0 k1 k2 k3 k4 k5 k6 k7 l0 l1 l2 l3 l4 l5 l6 z0 z1 z2 z3 hxz hyz hzz HPK2
      obtain ⟨bw, hbw⟩ : ∃ j, w12.heap.size = j := ⟨_, rfl⟩
      obtain ⟨w13, hw13⟩ : ∃ wX, w12.alloc (.cells #[.int .i64 lev, .slice px XL.length qx, .slice py YL.length qy, .bool bot] 56) = wX := ⟨_, rfl⟩
      have hb13 : Below w12.heap.size w12 w13 := by rw [← hw13]; exact (Below.refl _ _).alloc (Nat.le_refl _) _
      have wj13 : Ob.Obj w13 bw 56 [.int .i64 lev, .slice px XL.length qx, .slice py YL.length qy, .bool bot] := by rw [← hw13, ← hbw]; exact Ob.Obj.new w12 _ _
      have hb1113 : Below w11.heap.size w11 w13 := hb12.trans (hb13.mono hb12.size)
      have bj13 := HBJ.out.below hb1113
      have HSJ := Lib.hid (sameJob_eq ⟨lev, XL, YL, bot⟩ (.slice ax XL.length cx) (.slice ay YL.length cy) (.slice px XL.length qx) (.slice py YL.length qy) w13 (tbs_of_own (own_below HX11.out hb1113)) (tbs_of_own (own_below HY11.out hb1113)) (tbs_of_own (own_below hx hb13)) (tbs_of_own (own_below hy hb13)) (Nat.le_trans hjl.1 (by decide)) (Nat.le_trans hjl.2 (by decide)))
      unfold jobV at HSJ
      simp only at HSJ
      have j0 := bj13.cell 0; have j1 := bj13.cell 1; have j2 := bj13.cell 2; have j3 := bj13.cell 3; simp at j0 j1 j2 j3
      have i0 := wj13.cell 0; have i1 := wj13.cell 1; have i2 := wj13.cell 2; have i3 := wj13.cell 3; simp at i0 i1 i2 i3
      have hjz := bj13.lt
      have hiz := wj13.lt
      have HJ13 := Lib.hid bj13
      have H1113 := Lib.hid hb1113
      rw [hw13, hbw]
      clear hw13 hbw hb13 wj13 bj13 hb1113 hx hy hb12
      go_upto_region 13 with (go_at_call 24; (with_reducible refine HSJ.out.mono ?_); rintro e W5 ⟨rfl, hb5⟩)
      have HB25 := HB11.out.trans ((H1113.out.trans (hb5.mono H1113.out.size)).mono HB11.out.size)
      have hb115 : Below w11.heap.size w11 W5 := H1113.out.trans (hb5.mono H1113.out.size)
      obtain ⟨gx, fx, ax', cpx, curx, hxe, hxf⟩ := row_obj (own_below HX11.out hb115)
      obtain ⟨gy, fy, ay', cpy, cury, hye, hyf⟩ := row_obj (own_below HY11.out hb115)
      have HZ : Zr W5 W2.heap.size bj [.int .i64 lev, .slice ax XL.length cx, .slice ay YL.length cy, .bool bot] W5 := ⟨fun b cs h => ⟨cs, h, rfl⟩, Below.refl _ _, HJ13.out.below hb5⟩
      have HFX : Hid (0 < XL.length → ax = some ⟨gx, fx, none⟩ ∧ Ob.Obj W5 gx 38 curx ∧ ∀ j, j < XL.length * 6 → curx[fx + j]? = (tcs XL)[j]?) := by injection hxe with e1 _ _; rw [e1]; exact hxf
      have HFY : Hid (0 < YL.length → ay = some ⟨gy, fy, none⟩ ∧ Ob.Obj W5 gy 38 cury ∧ ∀ j, j < YL.length * 6 → cury[fy + j]? = (tcs YL)[j]?) := by injection hye with e1 _ _; rw [e1]; exact hyf
      clear hxe hxf hye hyf hb115 hb5 j0 j1 j2 j3 i0 i1 i2 i3 hjz hiz HSJ HX11 HY11 HXK HZK HHB HO11
      go_wp2_with fail
      go_loopw [19] (fun i wr => ∃ q : Nat, q ≤ XL.length ∧ i = .int .i64 (q : Int) ∧ Zr W5 W2.heap.size bj [.int .i64 lev, .slice ax XL.length cx, .slice ay YL.length cy, .bool bot] wr) (fun i _ => XL.length - (intOf i).toNat)
      case atStart => exact ⟨0, Nat.zero_le _, rfl, HZ⟩
      case round =>
        clear HZ
        obtain ⟨q, hq, rfl, HZ⟩ := hrel
        obtain ⟨wo, rfl⟩ : ∃ wo : World, wo = wr := ⟨_, rfl⟩
        have hjo := HZ.box
        have j0 := hjo.cell 0; have j1 := hjo.cell 1; have j2 := hjo.cell 2; have j3 := hjo.cell 3; simp at j0 j1 j2 j3
        have hjz := hjo.lt
        by_cases hlt : q < XL.length
        · have hi3 : (0 : Int) ≤ (q : Int) ∧ (q : Int) < (XL.length : Int) := by omega
          obtain ⟨ha, hob, hcc⟩ := HFX.out (by omega)
          have hg := HGX.out gx (by rw [ha]; rfl)
          subst ha
          obtain ⟨cs', ho', hl'⟩ := HZ.rows _ _ hob
          have hin : fx + q * 6 < cs'.length := by rw [hl']; have h1 := hcc (q * 6) (by omega); exact (List.getElem?_eq_some_iff.1 (h1.trans (List.getElem?_eq_getElem (by rw [Mf.tcs_len]; omega)))).1
          have hq0 : wo.cell? ⟨gx, fx + q * 6, none⟩ = some cs'[fx + q * 6] := by rw [ho'.cell]; exact List.getElem?_eq_getElem hin
          have hf0 := ho'.frozen (fx + q * 6)
          have hZ2 := Lib.hid (HZ.set (b := gx) hg.1 hg.2 (fx + q * 6) (.int .u64 0))
          clear ho' hl' hjo hob hcc
          generalize cs'[fx + q * 6] = old at *
          go_wp2_with fail
          go_roundw
          case rel => exact ⟨q + 1, by omega, by go_num, hZ2.out⟩
          case measure => simp [intOf]; omega
        · obtain rfl : q = XL.length := by omega
          have hi3 : ¬ (XL.length : Int) < (XL.length : Int) := by omega
          clear hjo
          go_wp2_with fail
          go_loopw [20] (fun i wr => ∃ q : Nat, q ≤ YL.length ∧ i = .int .i64 (q : Int) ∧ Zr W5 W2.heap.size bj [.int .i64 lev, .slice ax XL.length cx, .slice ay YL.length cy, .bool bot] wr) (fun i _ => YL.length - (intOf i).toNat)
          case atStart => exact ⟨0, Nat.zero_le _, rfl, HZ⟩
          case round =>
            clear HZ
            obtain ⟨q, hq, rfl, HZ⟩ := hrel
            obtain ⟨wo, rfl⟩ : ∃ wo : World, wo = wr := ⟨_, rfl⟩
            have hjo := HZ.box
            have j0 := hjo.cell 0; have j1 := hjo.cell 1; have j2 := hjo.cell 2; have j3 := hjo.cell 3; simp at j0 j1 j2 j3
            have hjz := hjo.lt
            by_cases hlt : q < YL.length
            · have hi3 : (0 : Int) ≤ (q : Int) ∧ (q : Int) < (YL.length : Int) := by omega
              obtain ⟨ha, hob, hcc⟩ := HFY.out (by omega)
              have hg := HGY.out gy (by rw [ha]; rfl)
              subst ha
              obtain ⟨cs', ho', hl'⟩ := HZ.rows _ _ hob
              have hin : fy + q * 6 < cs'.length := by rw [hl']; have h1 := hcc (q * 6) (by omega); exact (List.getElem?_eq_some_iff.1 (h1.trans (List.getElem?_eq_getElem (by rw [Mf.tcs_len]; omega)))).1
              have hq0 : wo.cell? ⟨gy, fy + q * 6, none⟩ = some cs'[fy + q * 6] := by rw [ho'.cell]; exact List.getElem?_eq_getElem hin
              have hf0 := ho'.frozen (fy + q * 6)
              have hZ2 := Lib.hid (HZ.set (b := gy) hg.1 hg.2 (fy + q * 6) (.int .u64 0))
              clear ho' hl' hjo hob hcc
              generalize cs'[fy + q * 6] = old at *
              go_wp2_with fail
              go_roundw
              case rel => exact ⟨q + 1, by omega, by go_num, hZ2.out⟩
              case measure => simp [intOf]; omega
            · obtain rfl : q = YL.length := by omega
              have hi3 : ¬ (YL.length : Int) < (YL.length : Int) := by omega
              clear hjo
              go_upto_region 21 with fail
              have HB9 := HB25.trans HZ.bel
              have HLV9 := Lib.hid (((HLO.out.below HB9).live hlens l.next l.seq l.log))
              have HHV9 := Lib.hid (((HHO.out.below HB9).live hlens l.next l.seq l.log))
              have bl9 := HBL.out.below HB9
              have bh9 := HBH.out.below HB9
              have l0 := bl9.cell 0; have l1 := bl9.cell 1; have l2 := bl9.cell 2; have l3 := bl9.cell 3; have l4 := bl9.cell 4; have l5 := bl9.cell 5; have l6 := bl9.cell 6; simp at l0 l1 l2 l3 l4 l5 l6
              have h0 := bh9.cell 0; have h1 := bh9.cell 1; have h2 := bh9.cell 2; have h3 := bh9.cell 3; have h4 := bh9.cell 4; have h5 := bh9.cell 5; have h6 := bh9.cell 6; simp at h0 h1 h2 h3 h4 h5 h6
              have hlz := bl9.lt
              have hhz := bh9.lt
              rw [HU.out.1, HU.out.2.1, HU.out.2.2.1, HU.out.2.2.2] at HLV9
              rw [HV.out.1, HV.out.2.1, HV.out.2.2.1, HV.out.2.2.2] at HHV9
              have HSL := Lib.hid (Mf.sameLive_eq l (.slice a0 n0 c0) (.slice a1 n1 c1) (.slice a2 n2 c2) (.slice a3 n3 c3) (.slice ha0 hn0 hc0) (.slice ha1 hn1 hc1) (.slice ha2 hn2 hc2) (.slice ha3 hn3 hc3) _ HLV9.out HHV9.out)
              unfold lvV at HSL
              clear bl9 bh9 j0 j1 j2 j3
              go_wp2_with (go_at_call 11; (with_reducible refine HSL.out.mono ?_); rintro e w21 ⟨rfl, hb21⟩)
              all_goals go_ret
              all_goals exact ⟨by simp, (HB2.out.trans (HB9.mono HB2.out.size)).trans (hb21.mono (Nat.le_trans HB2.out.size HB9.size))⟩
end Cp
end Go.Proofs.Ytpldfdlnhgmnaaa

/-
  A call that could start goroutines and starts none: at its return nobody else is there, so whoever is there is only leaving.
-/
namespace Go.Proofs.Ytpldfdlnhgmnaaa

namespace Lv
theorem alone_leaves {P : Program} {last : Machine} {w : World} {t : Trace} (h : aloneAtReturn P last w t) : leavingAtReturn P last w t := by
  obtain ⟨⟨h1, h2⟩, h3, h4⟩ := h
  refine ⟨h3, ⟨fun g hg => ⟨0, ?_⟩, h2⟩, h4⟩
  unfold Machine.othersDone at h1
  have := List.all_eq_true.1 h1 g hg
  simpa [Goroutine.LeavesIn] using this
theorem open_leaves {a : Assume} {st : Option Stop.Interp} {C : Checked} {os : Os} {f : FuncId} {r : Reach} {okInput : Program → World → Reach → Nat → FuncId → Input → Prop} {Pre : World → Array Value → Prop} {Post : World → Array Value → Value → World → Prop} {always : Machine → Prop}
    (h : ReturnsInOpen a st C os f r okInput Pre Post (aloneAtReturn C.prog) always) : ReturnsInOpen a st C os f r okInput Pre Post (leavingAtReturn C.prog) always := by
  obtain ⟨h1, h2, h3, h4, h5⟩ := h
  refine ⟨h1, h2, h3, h4, fun w tape i hf => ?_⟩
  obtain ⟨n, v, w', k1, k2, k3, k4, ⟨j, last, e1, e2, e3⟩, k5⟩ := h5 w tape i hf
  exact ⟨n, v, w', k1, k2, k3, k4, ⟨j, last, e1, e2, alone_leaves e3⟩, k5⟩
/-- THE ROW THAT SAYS 'leaving', from the one that says that nobody else is there. -/
theorem leaving {p : Pinned} {s : OpenSpec} (c : OpenClaim) (hst : c.start = .entering) (hss : c.stops = []) (hl : c.leaving = true) (hwf : c.wf s = true) (h : OpenClaim.holds p s { c with leaving := false }) : c.holds p s := by
  obtain ⟨_, h2, h3, h4, h5, h6, h7, h8, f, fn, k1, k2, k3, k4, k5, k6, k7, k8, k9, k10, k11, k12, k13, k14, k15, k16, k17, k18, k19, k20, k21, L, hL, hform⟩ := h
  refine ⟨hwf, h2, h3, h4, h5, h6, h7, h8, f, fn, k1, k2, k3, k4, k5, k6, k7, k8, k9, k10, k11, k12, k13, k14, k15, k16, k17, k18, k19, k20, k21, L, hL, fun os hw hq H enc inj => ?_⟩
  have hf := hform os hw hq H enc inj
  unfold OpenClaim.form at hf ⊢
  simp only [hst, hss] at hf ⊢
  intro F
  have hg := hf F
  have e1 : c.atReturn p.checked.prog = leavingAtReturn p.checked.prog := by unfold OpenClaim.atReturn; rw [hl]
  rw [e1]
  exact open_leaves hg
end Lv
end Go.Proofs.Ytpldfdlnhgmnaaa

/-
  The dump is laid out.
-/
namespace Go.Proofs.Ytpldfdlnhgmnaaa
open Go.RowKit
theorem laidOut : laidOutB Try.prog = true := by kernel_rfl
end Go.Proofs.Ytpldfdlnhgmnaaa

/-
  Configurations that came in, opened.
-/
namespace Go.Proofs.Ytpldfdlnhgmnaaa
open Go.RowKit
set_option linter.unusedVariables false
namespace Cp
open Gn
theorem i64c {n : Int} (h : (Lit.int .i64 n).wf = true) : -9223372036854775808 ≤ n ∧ n ≤ 9223372036854775807 := by simpa [Lit.wf, IntKind.min, IntKind.max, IntKind.signed, IntKind.bits] using h
abbrev cfgT : Ty := .struct (.cons (.int .i64) (.cons (.int .i64) (.cons (.int .i64) (.cons (.int .i64) (.cons (.int .i64) (.cons (.int .i64) (.cons (.int .i64) (.cons (.int .u64) .nil))))))))
/-- numbers that come into sums -/
structure CfgIn (c : Cfg) : Prop where
  f0 : -9223372036854775808 ≤ c.files
  f1 : c.files ≤ 9223372036854775807
  b0 : -9223372036854775808 ≤ c.base
  b1 : c.base ≤ 9223372036854775807

variable {H : Type} {enc : TypeId × Value → H} {W : World}
set_option maxRecDepth 100000 in
theorem open_cfg {B : Nat} {v : Value} {d : DataW H} {p : List MemPlace} {base : Nat} (hv : Value.okWide Try.prog W .any base 50 v)
    (h : DataW.Trod enc Try.prog W 0 (fun _ => true) true 50 v d p) (hlt : ∀ x ∈ p, x.block < W.heap.size) (_ : 0 ≤ 1) :
    ∃ c : Cfg, v = cfgV c ∧ CfgIn c := by
  obtain ⟨cs, x, rfl, hx, _⟩ := open_val cfgT (by kernel_rfl) hv h (Nat.le_refl _)
  obtain ⟨x0, x1, x2, x3, x4, x5, x6, x7, uu⟩ := x
  obtain ⟨c1, d1, rfl, _, ⟨rfl, w1⟩, c2, d2, rfl, _, ⟨rfl, w2⟩, c3, d3, rfl, _, ⟨rfl, w3⟩, c4, d4, rfl, _, ⟨rfl, w4⟩, c5, d5, rfl, _, ⟨rfl, w5⟩, c6, d6, rfl, _, ⟨rfl, w6⟩, c7, d7, rfl, _, ⟨rfl, w7⟩, c8, d8, rfl, _, ⟨rfl, w8⟩, rfl⟩ := hx
  obtain ⟨q1, q2⟩ := i64c w5
  obtain ⟨q3, q4⟩ := i64c w6
  exact ⟨⟨x0, x1, x2, x3, x4, x5, x6, x7⟩, rfl, ⟨q1, q2, q3, q4⟩⟩
end Cp
end Go.Proofs.Ytpldfdlnhgmnaaa

/-
  The law CompactPicks, as its frame calls it; keys of four levels that came in, opened.
-/
namespace Go.Proofs.Ytpldfdlnhgmnaaa
open Go.RowKit
set_option linter.unusedVariables false
set_option linter.unusedSimpArgs false
namespace Cp
open Go.ChangeShapes (trod_array4)
theorem cellsA4 : Try.prog.cellsOf 51 = 4 := by kernel_rfl
theorem cellsS1 : Try.prog.cellsOf 9 = 1 := by kernel_rfl
theorem bs_back (x : ByteArray) : Cd.bs x.data.toList = x := by
  apply ByteArray.ext
  simp [Cd.bs]
variable {H : Type} {enc : TypeId × Value → H} {W : World}
set_option maxRecDepth 100000 in
theorem open_keys {B : Nat} {v : Value} {d : DataW H} {p : List MemPlace} {base : Nat} (hv : Value.okWide Try.prog W .any base 51 v)
    (h : DataW.Trod enc Try.prog W 0 (fun _ => true) true 51 v d p) (hlt : ∀ x ∈ p, x.block < W.heap.size) (_ : Rows.uptoBulk d ≤ B) :
    ∃ A : Nat → List UInt8, v = .agg #[.string (Cd.bs (A 0)), .string (Cd.bs (A 1)), .string (Cd.bs (A 2)), .string (Cd.bs (A 3))] ∧ True := by
  obtain ⟨cs, rfl, hsz, _⟩ : ∃ cs, v = .agg cs ∧ cs.size = Try.prog.cellsOf 51 ∧ Row.okWide Try.prog W .any base 51 cs := by
    simpa [Value.okWide, Try.underlying51] using hv
  rw [cellsA4] at hsz
  obtain ⟨l⟩ := cs
  match l, hsz with
  | [c0, c1, c2, c3], _ =>
    obtain ⟨fuel, hf⟩ := h
    obtain ⟨y0, y1, y2, y3, m, hx, hy0, hy1, hy2, hy3⟩ := trod_array4 Try.underlying51 cellsS1 hf
    obtain ⟨x0, e0, -, w0⟩ := DataW.trod_string Try.underlying9 hy0
    obtain ⟨x1, e1, -, w1⟩ := DataW.trod_string Try.underlying9 hy1
    obtain ⟨x2, e2, -, w2⟩ := DataW.trod_string Try.underlying9 hy2
    obtain ⟨x3, e3, -, w3⟩ := DataW.trod_string Try.underlying9 hy3
    simp at e0 e1 e2 e3
    subst e0 e1 e2 e3
    refine ⟨fun j => [x0.data.toList, x1.data.toList, x2.data.toList, x3.data.toList].getD j [], ?_, trivial⟩
    show Value.agg #[.string x0, .string x1, .string x2, .string x3] = Value.agg #[.string (Cd.bs x0.data.toList), .string (Cd.bs x1.data.toList), .string (Cd.bs x2.data.toList), .string (Cd.bs x3.data.toList)]
    rw [bs_back, bs_back, bs_back, bs_back]

theorem compactPicks_law (c : Cfg) (a : Option Addr) (n cap : Nat) (es : List Mf.Ed) (b off : Nat) (A : Nat → List UInt8) (w : World) (_ : CfgIn c) (hE : n = es.length ∧ Mf.EdsIn w a es b off) (_ : True) :
    Calls Try.prog 6 #[cfgV c, .slice a n cap, .agg #[.string (Cd.bs (A 0)), .string (Cd.bs (A 1)), .string (Cd.bs (A 2)), .string (Cd.bs (A 3))]] w fun e w' => e = .returned (.bool true) ∧ Below w.heap.size w w' := by
  obtain ⟨rfl, hE⟩ := hE
  exact compactPicks_walk c a cap es b off A w hE
end Cp
end Go.Proofs.Ytpldfdlnhgmnaaa

/-
  CompactLeads, plain: what a span is of tables that are told twice; who is among the tables that overlap. No program is named here.
-/
namespace Go.Proofs.Ytpldfdlnhgmnaaa
set_option linter.unusedVariables false
set_option linter.unusedSimpArgs false
namespace Cp
open Op (bytesLess)
open Mf (Tbl bl_irrefl bl_trans bl_total)
def spanF (p : List UInt8 × List UInt8) (L : List Tbl) : List UInt8 × List UInt8 := L.foldl (fun p y => (minB p.1 y.lo, maxB p.2 y.hi)) p
theorem spanF_snoc (p : List UInt8 × List UInt8) (L : List Tbl) (x : Tbl) : spanF p (L ++ [x]) = (minB (spanF p L).1 x.lo, maxB (spanF p L).2 x.hi) := by simp [spanF]
theorem spanF_app (p : List UInt8 × List UInt8) (L M : List Tbl) : spanF p (L ++ M) = spanF (spanF p L) M := by simp [spanF]
theorem minB_self (a : List UInt8) : minB a a = a := by unfold minB; split <;> rfl
theorem maxB_self (a : List UInt8) : maxB a a = a := by unfold maxB; split <;> rfl
theorem spanP_two {x : Tbl} {r : List Tbl} : spanF (x.lo, x.hi) (x :: r) = spanP (x :: r) := by
  show spanF (minB x.lo x.lo, maxB x.hi x.hi) r = _
  rw [minB_self, maxB_self]
  rfl
/-- a is not beyond b -/
def leB (a b : List UInt8) : Prop := bytesLess b a = false
theorem leB_refl (a : List UInt8) : leB a a := bl_irrefl a
theorem leB_trans {a b c : List UInt8} (h1 : leB a b) (h2 : leB b c) : leB a c := by
  unfold leB at *
  cases h : bytesLess c a with
  | false => rfl
  | true =>
    rcases bl_total b c with h3 | h3 | h3
    · rw [bl_trans b c a h3 h] at h1; cases h1
    · subst h3; rw [h] at h1; cases h1
    · rw [h3] at h2; cases h2
theorem minB_le (a b : List UInt8) : leB (minB a b) a ∧ leB (minB a b) b := by
  unfold minB
  split
  · rename_i h
    refine ⟨?_, leB_refl b⟩
    unfold leB
    cases h2 : bytesLess a b with
    | false => rfl
    | true => have := bl_trans a b a h2 h; rw [bl_irrefl] at this; cases this
  · rename_i h
    exact ⟨leB_refl a, by simpa [leB] using h⟩
theorem maxB_le (a b : List UInt8) : leB a (maxB a b) ∧ leB b (maxB a b) := by
  unfold maxB
  split
  · rename_i h
    refine ⟨?_, leB_refl b⟩
    unfold leB
    cases h2 : bytesLess b a with
    | false => rfl
    | true => have := bl_trans a b a h h2; rw [bl_irrefl] at this; cases this
  · rename_i h
    exact ⟨leB_refl a, by simpa [leB] using h⟩
theorem minB_eq {a b : List UInt8} (h : leB a b) : minB a b = a := by unfold minB; unfold leB at h; rw [h]; rfl
theorem maxB_eq {a b : List UInt8} (h : leB b a) : maxB a b = a := by unfold maxB; unfold leB at h; rw [h]; rfl
theorem spanF_in : ∀ (L : List Tbl) (p : List UInt8 × List UInt8), leB (spanF p L).1 p.1 ∧ leB p.2 (spanF p L).2 ∧ ∀ y ∈ L, leB (spanF p L).1 y.lo ∧ leB y.hi (spanF p L).2
  | [], p => ⟨leB_refl _, leB_refl _, fun y hy => by cases hy⟩
  | x :: r, p => by
    have ih := spanF_in r (minB p.1 x.lo, maxB p.2 x.hi)
    obtain ⟨h1, h2, h3⟩ := ih
    have m := minB_le p.1 x.lo
    have n := maxB_le p.2 x.hi
    refine ⟨leB_trans h1 m.1, leB_trans n.1 h2, fun y hy => ?_⟩
    rcases List.mem_cons.1 hy with rfl | hy
    · exact ⟨leB_trans h1 m.2, leB_trans n.2 h2⟩
    · exact h3 y hy
theorem spanF_stays : ∀ (L : List Tbl) (p : List UInt8 × List UInt8), (∀ y ∈ L, leB p.1 y.lo ∧ leB y.hi p.2) → spanF p L = p
  | [], p, _ => rfl
  | x :: r, p, h => by
    have hx := h x (by simp)
    show spanF (minB p.1 x.lo, maxB p.2 x.hi) r = p
    rw [minB_eq hx.1, maxB_eq hx.2]
    exact spanF_stays r p (fun y hy => h y (by simp [hy]))
/-- the span of From, taken over From and To, is the span of both -/
theorem span_both {X : List Tbl} (h : 0 < X.length) (Y : List Tbl) : spanF (spanP X) (X ++ Y) = spanP (X ++ Y) := by
  cases X with
  | nil => simp at h
  | cons x r =>
    have h1 : spanP (x :: r) = spanF (x.lo, x.hi) r := rfl
    have h2 : spanF (spanP (x :: r)) (x :: r) = spanP (x :: r) := spanF_stays _ _ (by
      have h3 := spanF_in (x :: r) (x.lo, x.hi)
      rw [spanP_two] at h3
      exact h3.2.2)
    rw [spanF_app, h2]
    show spanF (spanP (x :: r)) Y = spanP (x :: (r ++ Y))
    rw [h1, ← spanF_app]
    rfl
theorem span_once {X : List Tbl} (h : 0 < X.length) : spanF (X[0].lo, X[0].hi) X = spanP X := by
  cases X with
  | nil => simp at h
  | cons x r => exact spanP_two
end Cp
end Go.Proofs.Ytpldfdlnhgmnaaa

/-
  CompactLeads: its loops, out of the translation; the fourth: the span of all tables of a job.
-/
namespace Go.Proofs.Ytpldfdlnhgmnaaa
open Go.RowKit
set_option linter.unusedSimpArgs false
set_option linter.unusedVariables false
namespace Cp
open Op (bytesLess)
open Mf (Tbl Lv lvV LvIn Tbs TAt TblIn uA box_lev tcs tbs_of_own tblV Post wp_post loopsOf inLoop)

noncomputable def ldLoop (n : Nat) : Code := (((Try.f7.body.map loopsOf).getD [])[n]?).getD .skip

noncomputable def ldInner (n m : Nat) : Code := (((((Try.f7.body.map loopsOf).getD [])[n]?.map inLoop).getD [])[m]?).getD .skip

set_option maxRecDepth 1000000 in
set_option maxHeartbeats 40000000 in
theorem ld_span (R : Act → World → Prop) (X : Nat → Act → World → Prop) (L : List Tbl) (lo hi : List UInt8) (az : Option Addr) (nz cz : Nat) (W0 : World) {v0 v1 v2 v3 v4 v5 v6 v7 v8 v9 v10 v11 v15 v16 v17 v18 v19 v20 v22 v23 v24 v25 v26 v27 v28 v29 v30 v31 v32 v33 v34 v35 v36 v37 v38 v39 v40 v41 v42 v43 v44 v45 v46 v47 v48 v49 v50 v51 v52 v53 v54 v55 v56 v57 v58 v59 v60 v61 v62 v63 v64 v65 v66 v67 v68 v69 v70 v71 v72 v73 v74 v75 v76 v77 v78 v79 v80 v81 v82 v83 v84 v85 v86 v87 v88 v89 v90 v91 v92 v93 v94 v95 v96 v97 v98 v99 v100 v101 v102 v103 v104 v105 v106 v107 v108 v109 v110 v111 v112 v113 v114 v115 v116 v117 v118 v119 v120 v121 v122 v123 v124 v125 v126 v127 v128 v129 v130 v131 v132 v133 v134 v135 v136 v137 v138 v139 v140 v141 v142 v143 v144 v145 v146 v147 v148 v149 v150 v151 v152 v153 v154 v155 v156 v157 v158 v159 v160 v161 v162 v163 v164 v165 v166 v167 v168 v169 v170 v171 v172 v173 v174 v175 v176 v177 v178 v179 v180 v181 v182 v183 v184 v185 v186 v187 v188 v189 v190 v191 v192 v193 v194 v195 v196 v197 v198 v199 v200 v201 v202 v203 v204 v205 v206 v207 v208 v209 v210 v211 v212 v213 v214 v215 v216 v217 v218 v219 v220 v221 v222 v223 v224 v225 v226 v227 v228 v229 v230 v231 : Value}
    (hn : nz = L.length) (hL : L.length ≤ 8388608) (HT : Hid (Tbs W0.heap.size W0 (.slice az nz cz) L))
    (HEX : Hid (∀ (x21 x177 x178 x179 x180 x181 x182 x183 x184 x185 x186 x187 x188 x189 x190 x191 x192 x193 x194 x195 x196 x197 x198 x199 : Value), X 6 ⟨#[v0, v1, v2, v3, v4, v5, v6, v7, v8, v9, v10, v11, .string (Cd.bs (spanF (lo, hi) L).1), .string (Cd.bs (spanF (lo, hi) L).2), .slice az nz cz, v15, v16, v17, v18, v19, v20, x21, v22, v23, v24, v25, v26, v27, v28, v29, v30, v31, v32, v33, v34, v35, v36, v37, v38, v39, v40, v41, v42, v43, v44, v45, v46, v47, v48, v49, v50, v51, v52, v53, v54, v55, v56, v57, v58, v59, v60, v61, v62, v63, v64, v65, v66, v67, v68, v69, v70, v71, v72, v73, v74, v75, v76, v77, v78, v79, v80, v81, v82, v83, v84, v85, v86, v87, v88, v89, v90, v91, v92, v93, v94, v95, v96, v97, v98, v99, v100, v101, v102, v103, v104, v105, v106, v107, v108, v109, v110, v111, v112, v113, v114, v115, v116, v117, v118, v119, v120, v121, v122, v123, v124, v125, v126, v127, v128, v129, v130, v131, v132, v133, v134, v135, v136, v137, v138, v139, v140, v141, v142, v143, v144, v145, v146, v147, v148, v149, v150, v151, v152, v153, v154, v155, v156, v157, v158, v159, v160, v161, v162, v163, v164, v165, v166, v167, v168, v169, v170, v171, v172, v173, v174, v175, v176, x177, x178, x179, x180, x181, x182, x183, x184, x185, x186, x187, x188, x189, x190, x191, x192, x193, x194, x195, x196, x197, x198, x199, v200, v201, v202, v203, v204, v205, v206, v207, v208, v209, v210, v211, v212, v213, v214, v215, v216, v217, v218, v219, v220, v221, v222, v223, v224, v225, v226, v227, v228, v229, v230, v231], []⟩ W0)) :
    Code.wp Try.prog (ldLoop 2) (Post R X) ⟨#[v0, v1, v2, v3, v4, v5, v6, v7, v8, v9, v10, v11, .string (Cd.bs lo), .string (Cd.bs hi), .slice az nz cz, v15, v16, v17, v18, v19, v20, .int .i64 0, v22, v23, v24, v25, v26, v27, v28, v29, v30, v31, v32, v33, v34, v35, v36, v37, v38, v39, v40, v41, v42, v43, v44, v45, v46, v47, v48, v49, v50, v51, v52, v53, v54, v55, v56, v57, v58, v59, v60, v61, v62, v63, v64, v65, v66, v67, v68, v69, v70, v71, v72, v73, v74, v75, v76, v77, v78, v79, v80, v81, v82, v83, v84, v85, v86, v87, v88, v89, v90, v91, v92, v93, v94, v95, v96, v97, v98, v99, v100, v101, v102, v103, v104, v105, v106, v107, v108, v109, v110, v111, v112, v113, v114, v115, v116, v117, v118, v119, v120, v121, v122, v123, v124, v125, v126, v127, v128, v129, v130, v131, v132, v133, v134, v135, v136, v137, v138, v139, v140, v141, v142, v143, v144, v145, v146, v147, v148, v149, v150, v151, v152, v153, v154, v155, v156, v157, v158, v159, v160, v161, v162, v163, v164, v165, v166, v167, v168, v169, v170, v171, v172, v173, v174, v175, v176, v177, v178, v179, v180, v181, v182, v183, v184, v185, v186, v187, v188, v189, v190, v191, v192, v193, v194, v195, v196, v197, v198, v199, v200, v201, v202, v203, v204, v205, v206, v207, v208, v209, v210, v211, v212, v213, v214, v215, v216, v217, v218, v219, v220, v221, v222, v223, v224, v225, v226, v227, v228, v229, v230, v231], []⟩ W0 := by
  dsimp only at HEX ⊢
  conv => arg 2; whnf
  subst hn
  obtain ⟨a2, c2, fb, fo, he, ha, hc⟩ := HT.out
  injection he with e1 _ e3
  subst e1 e3
  have HC := Lib.hid hc
  clear hc HT
  go_loopw [21, 12, 13] (fun i p s wr => ∃ q : Nat, q ≤ L.length ∧ i = .int .i64 (q : Int) ∧ p = .string (Cd.bs (spanF (lo, hi) (L.take q)).1) ∧ s = .string (Cd.bs (spanF (lo, hi) (L.take q)).2) ∧ W0 = wr) (fun i _ _ _ => L.length - (intOf i).toNat)
  case atStart => exact ⟨0, Nat.zero_le _, rfl, rfl, rfl, rfl⟩
  case round =>
    obtain ⟨q, hq, rfl, rfl, rfl, rfl⟩ := hrel
    by_cases hlt : q < L.length
    · obtain ⟨rfl, hfb⟩ := ha (by omega)
      obtain ⟨e0, e1, e2, e3, e4, e5⟩ := HC.out q hlt
      have hi3 : (0 : Int) ≤ (q : Int) ∧ (q : Int) < (L.length : Int) := by omega
      have HN := Lib.hid (show spanF (lo, hi) (L.take (q + 1)) = (minB (spanF (lo, hi) (L.take q)).1 L[q].lo, maxB (spanF (lo, hi) (L.take q)).2 L[q].hi) by rw [List.take_succ_eq_append_getElem hlt, spanF_snoc])
      generalize spanF (lo, hi) (L.take q) = PP at *
      obtain ⟨A, B⟩ := PP
      generalize L[q] = y at *
      obtain ⟨yn, yl, ys, yc, ylo, yhi⟩ := y
      simp only at e4 e5 HN ⊢
      have hmn := fun W ts t => run_minB (P := Try.prog) W ts t A ylo
      have hmx := fun W ts t => run_maxB (P := Try.prog) W ts t B yhi
      go_wp2_with fail
      go_roundw
      case rel => exact ⟨q + 1, by omega, by go_num, by rw [HN.out], by rw [HN.out], by first | rfl | trivial⟩
      case measure => simp [intOf]; omega
    · obtain rfl : q = L.length := by omega
      rw [List.take_length]
      have hi3 : ¬ (L.length : Int) < (L.length : Int) := by omega
      go_wp2_with fail
      exact HEX.out _ _ _ _ _ _ _ _ _ _ _ _ _ _ _ _ _ _ _ _ _ _ _ _
end Cp
end Go.Proofs.Ytpldfdlnhgmnaaa

/-
  CompactLeads: its last loops: is there a deeper table that overlaps?
-/
namespace Go.Proofs.Ytpldfdlnhgmnaaa
open Go.RowKit
set_option linter.unusedSimpArgs false
set_option linter.unusedVariables false
namespace Cp
open Op (bytesLess)
open Mf (Tbl Lv lvV LvIn Tbs TAt TblIn uA box_lev tcs tbs_of_own tblV Post wp_post loopsOf inLoop)
set_option maxRecDepth 1000000 in
set_option maxHeartbeats 40000000 in
theorem ld_deep (R : Act → World → Prop) (X : Nat → Act → World → Prop) (l : Lv) (k : Nat) (d0 : Int) (bl : Nat) (a0 a1 a2 a3 : Option Addr) (n0 n1 n2 n3 c0 c1 c2 c3 : Nat) (lo hi : List UInt8) (W0 : World) {v0 v1 v2 v3 v4 v5 v6 v8 v9 v10 v11 v14 v15 v16 v17 v18 v19 v20 v21 v24 v25 v26 v27 v28 v29 v30 v31 v32 v33 v34 v35 v36 v37 v38 v39 v40 v41 v42 v43 v44 v45 v46 v47 v48 v49 v50 v51 v52 v53 v54 v55 v56 v57 v58 v59 v60 v61 v62 v63 v64 v65 v66 v67 v68 v69 v70 v71 v72 v73 v74 v75 v76 v77 v78 v79 v80 v81 v82 v83 v84 v85 v86 v87 v88 v89 v90 v91 v92 v93 v94 v95 v96 v97 v98 v99 v100 v101 v102 v103 v104 v105 v106 v107 v108 v109 v110 v111 v112 v113 v114 v115 v116 v117 v118 v119 v120 v121 v122 v123 v124 v125 v126 v127 v128 v129 v130 v131 v132 v133 v134 v135 v136 v137 v138 v139 v140 v141 v142 v143 v144 v145 v146 v147 v148 v149 v150 v151 v152 v153 v154 v155 v156 v157 v158 v159 v160 v161 v162 v163 v164 v165 v166 v167 v168 v169 v170 v171 v172 v173 v174 v175 v176 v177 v178 v179 v180 v181 v182 v183 v184 v185 v186 v187 v188 v189 v190 v191 v192 v193 v194 v195 v196 v197 v198 v199 v200 v201 v202 v203 v204 v205 v206 v207 v208 v209 v210 v211 v212 v213 v214 v215 v216 v217 v218 v219 v220 v221 v222 v223 v224 v225 v226 v227 v228 v229 v230 v231 : Value}
    (hk : k < 3) (hd0 : d0 = (k : Int) + 2) (HL : Hid (∀ W, Below W0.heap.size W0 W → LvIn W.heap.size W l (.slice a0 n0 c0) (.slice a1 n1 c1) (.slice a2 n2 c2) (.slice a3 n3 c3))) (HB : Hid (Ob.Obj W0 bl 27 [.int .u64 l.next, .int .u64 l.seq, .int .u64 l.log, .slice a0 n0 c0, .slice a1 n1 c1, .slice a2 n2 c2, .slice a3 n3 c3]))
    (HEX : Hid (∀ (x23 x24 x25 x200 x201 x202 x203 x204 x205 x206 x207 x208 x209 x210 x211 x212 x213 x214 x215 x216 x217 x218 x219 x220 x221 x222 x223 x224 x225 x226 : Value) (W' : World), Below W0.heap.size W0 W' → X 8 ⟨#[v0, v1, v2, v3, v4, v5, v6, .pointer (some ⟨bl, 0, none⟩), v8, v9, v10, v11, .string (Cd.bs lo), .string (Cd.bs hi), v14, v15, v16, v17, v18, v19, v20, v21, .bool (!(overP lo hi (l.t.drop (k + 2)).flatten).isEmpty), x23, x24, x25, v26, v27, v28, v29, v30, v31, v32, v33, v34, v35, v36, v37, v38, v39, v40, v41, v42, v43, v44, v45, v46, v47, v48, v49, v50, v51, v52, v53, v54, v55, v56, v57, v58, v59, v60, v61, v62, v63, v64, v65, v66, v67, v68, v69, v70, v71, v72, v73, v74, v75, v76, v77, v78, v79, v80, v81, v82, v83, v84, v85, v86, v87, v88, v89, v90, v91, v92, v93, v94, v95, v96, v97, v98, v99, v100, v101, v102, v103, v104, v105, v106, v107, v108, v109, v110, v111, v112, v113, v114, v115, v116, v117, v118, v119, v120, v121, v122, v123, v124, v125, v126, v127, v128, v129, v130, v131, v132, v133, v134, v135, v136, v137, v138, v139, v140, v141, v142, v143, v144, v145, v146, v147, v148, v149, v150, v151, v152, v153, v154, v155, v156, v157, v158, v159, v160, v161, v162, v163, v164, v165, v166, v167, v168, v169, v170, v171, v172, v173, v174, v175, v176, v177, v178, v179, v180, v181, v182, v183, v184, v185, v186, v187, v188, v189, v190, v191, v192, v193, v194, v195, v196, v197, v198, v199, x200, x201, x202, x203, x204, x205, x206, x207, x208, x209, x210, x211, x212, x213, x214, x215, x216, x217, x218, x219, x220, x221, x222, x223, x224, x225, x226, v227, v228, v229, v230, v231], []⟩ W')) :
    Code.wp Try.prog (ldLoop 3) (Post R X) ⟨#[v0, v1, v2, v3, v4, v5, v6, .pointer (some ⟨bl, 0, none⟩), v8, v9, v10, v11, .string (Cd.bs lo), .string (Cd.bs hi), v14, v15, v16, v17, v18, v19, v20, v21, .bool false, .int .i64 d0, v24, v25, v26, v27, v28, v29, v30, v31, v32, v33, v34, v35, v36, v37, v38, v39, v40, v41, v42, v43, v44, v45, v46, v47, v48, v49, v50, v51, v52, v53, v54, v55, v56, v57, v58, v59, v60, v61, v62, v63, v64, v65, v66, v67, v68, v69, v70, v71, v72, v73, v74, v75, v76, v77, v78, v79, v80, v81, v82, v83, v84, v85, v86, v87, v88, v89, v90, v91, v92, v93, v94, v95, v96, v97, v98, v99, v100, v101, v102, v103, v104, v105, v106, v107, v108, v109, v110, v111, v112, v113, v114, v115, v116, v117, v118, v119, v120, v121, v122, v123, v124, v125, v126, v127, v128, v129, v130, v131, v132, v133, v134, v135, v136, v137, v138, v139, v140, v141, v142, v143, v144, v145, v146, v147, v148, v149, v150, v151, v152, v153, v154, v155, v156, v157, v158, v159, v160, v161, v162, v163, v164, v165, v166, v167, v168, v169, v170, v171, v172, v173, v174, v175, v176, v177, v178, v179, v180, v181, v182, v183, v184, v185, v186, v187, v188, v189, v190, v191, v192, v193, v194, v195, v196, v197, v198, v199, v200, v201, v202, v203, v204, v205, v206, v207, v208, v209, v210, v211, v212, v213, v214, v215, v216, v217, v218, v219, v220, v221, v222, v223, v224, v225, v226, v227, v228, v229, v230, v231], []⟩ W0 := by
  dsimp only at HEX ⊢
  conv => arg 2; whnf
  have ht4 := (HL.out _ (Below.refl _ _)).four
  have hlens := (HL.out _ (Below.refl _ _)).len
  have HOVER := Lib.hid (fun (n l s c : Int) (xlo xhi : List UInt8) (W : World) => show Calls Try.prog 26 #[.agg #[.int .u64 n, .int .i64 l, .int .i64 s, .int .i64 c, .string (Cd.bs xlo), .string (Cd.bs xhi)], .string (Cd.bs lo), .string (Cd.bs hi)] W fun e w' => e = .returned (.bool (!bytesLess xhi lo && !bytesLess hi xlo)) ∧ Below W.heap.size W w' from Mf.overlapR_any ⟨n, l, s, c, xlo, xhi⟩ lo hi W)
  go_loopw [23, 22] (fun i p wr => ∃ d : Nat, k + 2 ≤ d ∧ d ≤ 4 ∧ i = .int .i64 (d : Int) ∧ p = .bool (!botTo l.t lo hi k d) ∧ Below W0.heap.size W0 wr) (fun i _ _ => 4 - (intOf i).toNat)
  case atStart => exact ⟨k + 2, Nat.le_refl _, by omega, by rw [hd0]; rfl, by rw [botTo_start]; rfl, Below.refl _ _⟩
  case round =>
    obtain ⟨d, hd1, hd2, rfl, rfl, hB⟩ := hrel
    obtain ⟨wo, rfl⟩ : ∃ wo : World, wo = wr := ⟨_, rfl⟩
    have HBO := Lib.hid hB
    by_cases hlt : d < 4
    · have hi1 : (d : Int) < 4 := by omega
      have hi2 : (0 : Int) ≤ (d : Int) ∧ (d : Int) < 4 := by omega
      have HNX := Lib.hid (botTo_next (lo := lo) (hi := hi) ht4 hlt hd1)
      have hlen := Mf.getD_le hlens d
      obtain ⟨a, cap, b, off, hv, ha, hc⟩ := (HL.out _ (Below.refl _ _)).lev hlt
      obtain ⟨L, hLe⟩ : ∃ L, l.t.getD d [] = L := ⟨_, rfl⟩
      rw [hLe] at hv ha hlen HNX
      have HC := Lib.hid (show ∀ j (h : j < L.length), TAt W0 b (off + j * 6) L[j] by subst hLe; exact hc)
      obtain ⟨z, hz⟩ : ∃ z, botTo l.t lo hi k d = z := ⟨_, rfl⟩
      rw [hz] at HNX ⊢
      clear hc hLe hz hB
      go_wp2_with fail
      go_loopw [24, 22] (fun i p wr => ∃ q : Nat, q ≤ L.length ∧ i = .int .i64 (q : Int) ∧ p = .bool (!(z && (overP lo hi (L.take q)).isEmpty)) ∧ Below W0.heap.size W0 wr) (fun i _ _ => L.length - (intOf i).toNat)
      case atStart => exact ⟨0, Nat.zero_le _, rfl, by simp [overP], HBO.out⟩
      case round =>
        obtain ⟨q, hq, rfl, rfl, hB⟩ := hrel
        obtain ⟨wi, rfl⟩ : ∃ wi : World, wi = wr := ⟨_, rfl⟩
        have x5 := HB.out.below hB
        have ck := box_lev x5 hlt
        rw [hv] at ck
        have hblz := x5.lt
        obtain ⟨p0, hp0⟩ : ∃ p0, (!(z && (overP lo hi (L.take q)).isEmpty)) = p0 := ⟨_, rfl⟩
        have HP0 := Lib.hid hp0
        rw [hp0]
        clear hp0 x5
        by_cases hql : q < L.length
        · obtain ⟨rfl, hbl⟩ := ha (by omega)
          obtain ⟨g0, g1, g2, g3, g4, g5⟩ := (HC.out q hql).below hB hbl
          have hi3 : (0 : Int) ≤ (q : Int) ∧ (q : Int) < (L.length : Int) := by omega
          have HTK := Lib.hid (List.take_succ_eq_append_getElem hql)
          generalize L[q] = y at *
          obtain ⟨yn, yl, ys, yc, ylo, yhi⟩ := y
          simp only at g0 g1 g2 g3 g4 g5
          have HV5 := Lib.hid (fun W => HOVER.out yn yl ys yc ylo yhi W)
          obtain ⟨d5, hd5⟩ : ∃ d5, (!bytesLess yhi lo && !bytesLess hi ylo) = d5 := ⟨_, rfl⟩
          rw [hd5] at HV5
          have HNP := Lib.hid (show (!(z && (overP lo hi (L.take (q + 1))).isEmpty)) = (p0 || d5) by
            rw [HTK.out, ← HP0.out]
            cases d5 with
            | true => rw [overP_snoc_in hd5]; cases z <;> cases overP lo hi (L.take q) <;> simp
            | false => rw [overP_snoc_out hd5]; simp)
          clear hd5
          go_wp2_with (go_at_call 26; (with_reducible refine (HV5.out _).mono ?_); rintro r w9 ⟨rfl, hb9⟩)
          all_goals go_roundw
          all_goals (try (case rel => exact ⟨q + 1, by omega, by go_num, by rw [HNP.out]; (first | rfl | (simp [*]; done) | (cases p0 <;> simp_all)), hB.trans (hb9.mono hB.size)⟩))
          all_goals (try (case measure => simp [intOf]; omega))
        · obtain rfl : q = L.length := by omega
          have hi3 : ¬ (L.length : Int) < (L.length : Int) := by omega
          have HNP := Lib.hid (show (!botTo l.t lo hi k (d + 1)) = p0 by rw [HNX.out, ← HP0.out, List.take_length])
          go_wp2_with fail
          go_roundw
          case rel => exact ⟨d + 1, by omega, by omega, by go_num, by rw [HNP.out], hB⟩
          case measure => simp [intOf]; omega
    · obtain rfl : d = 4 := by omega
      rw [botTo_end ht4]
      go_wp2_with fail
      exact HEX.out _ _ _ _ _ _ _ _ _ _ _ _ _ _ _ _ _ _ _ _ _ _ _ _ _ _ _ _ _ _ _ HBO.out
end Cp
end Go.Proofs.Ytpldfdlnhgmnaaa

/-
  CompactLeads: the inner loop of its second: is a table one of To?
-/
namespace Go.Proofs.Ytpldfdlnhgmnaaa
open Go.RowKit
set_option linter.unusedSimpArgs false
set_option linter.unusedVariables false
namespace Cp
open Op (bytesLess)
open Mf (Tbl Lv lvV LvIn Tbs TAt TblIn uA box_lev tcs tbs_of_own tblV Post wp_post loopsOf inLoop)

/-- are two tables one? -/
def eqT (y x : Tbl) : Bool := y.num == x.num && (y.lev == x.lev && (y.siz == x.siz && (y.cnt == x.cnt && (y.lo == x.lo && y.hi == x.hi))))
theorem eqT_iff {y x : Tbl} : eqT y x = true ↔ y = x := by
  obtain ⟨yn, yl, ys, yc, ylo, yhi⟩ := y
  obtain ⟨xn, xl, xs, xc, xlo, xhi⟩ := x
  simp [eqT]
def isIn (x : Tbl) (L : List Tbl) : Bool := L.any fun y => eqT y x
theorem isIn_next {YL : List Tbl} {x : Tbl} {q : Nat} (hq : q < YL.length) : isIn x (YL.take (q + 1)) = (isIn x (YL.take q) || eqT YL[q] x) := by
  unfold isIn
  rw [List.take_succ_eq_append_getElem hq, List.any_append]
  simp

set_option maxRecDepth 1000000 in
set_option maxHeartbeats 40000000 in
theorem ld_among (R : Act → World → Prop) (X : Nat → Act → World → Prop) (N YL : List Tbl) (i : Nat) (hi : i < N.length) (x : Tbl) (hx : N[i] = x) (bj : Nat) (lev : Int) (ax ay : Option Addr) (nx cx ny cy : Nat) (bot : Bool) (an : Option Addr) (nn cn : Nat) (W0 : World) {v0 v1 v2 v3 v4 v5 v6 v7 v9 v10 v11 v12 v13 v14 v15 v18 v21 v22 v23 v24 v25 v26 v27 v28 v29 v30 v31 v32 v33 v34 v35 v36 v37 v38 v39 v40 v41 v42 v43 v44 v45 v46 v47 v48 v49 v50 v51 v52 v53 v54 v55 v56 v57 v58 v59 v60 v61 v62 v63 v64 v65 v66 v67 v68 v69 v70 v71 v72 v73 v74 v75 v76 v77 v78 v79 v80 v81 v82 v83 v84 v85 v86 v87 v88 v89 v90 v91 v92 v93 v94 v95 v96 v97 v98 v99 v100 v101 v102 v103 v104 v105 v106 v107 v108 v109 v110 v111 v112 v113 v114 v115 v116 v117 v118 v119 v120 v121 v122 v123 v124 v125 v126 v127 v128 v129 v130 v131 v132 v133 v134 v135 v136 v137 v138 v139 v140 v141 v142 v143 v144 v145 v146 v147 v148 v149 v150 v151 v152 v153 v154 v155 v156 v157 v158 v159 v160 v161 v162 v163 v164 v165 v166 v167 v168 v169 v170 v171 v172 v173 v174 v175 v176 v177 v178 v179 v180 v181 v182 v183 v184 v185 v186 v187 v188 v189 v190 v191 v192 v193 v194 v195 v196 v197 v198 v199 v200 v201 v202 v203 v204 v205 v206 v207 v208 v209 v210 v211 v212 v213 v214 v215 v216 v217 v218 v219 v220 v221 v222 v223 v224 v225 v226 v227 v228 v229 v230 v231 : Value}
    (hn : nn = N.length) (hy : ny = YL.length) (hN : N.length ≤ 4194304) (hY : YL.length ≤ 4194304)
    (HN : Hid (∀ W, Below W0.heap.size W0 W → Tbs W.heap.size W (.slice an nn cn) N)) (HY : Hid (∀ W, Below W0.heap.size W0 W → Tbs W.heap.size W (.slice ay ny cy) YL))
    (HJ : Hid (Ob.Obj W0 bj 56 [.int .i64 lev, .slice ax nx cx, .slice ay ny cy, .bool bot]))
    (HEX : Hid (∀ (x20 x154 x155 x156 x157 x158 x159 x160 x161 x162 x163 x164 x165 x166 x167 x168 x169 x170 x171 x172 x173 : Value) (W' : World), Below W0.heap.size W0 W' → X 4 ⟨#[v0, v1, v2, v3, v4, v5, v6, v7, .pointer (some ⟨bj, 0, none⟩), v9, v10, v11, v12, v13, v14, v15, .slice an nn cn, .int .i64 (i : Int), v18, .bool (isIn x YL), x20, v21, v22, v23, v24, v25, v26, v27, v28, v29, v30, v31, v32, v33, v34, v35, v36, v37, v38, v39, v40, v41, v42, v43, v44, v45, v46, v47, v48, v49, v50, v51, v52, v53, v54, v55, v56, v57, v58, v59, v60, v61, v62, v63, v64, v65, v66, v67, v68, v69, v70, v71, v72, v73, v74, v75, v76, v77, v78, v79, v80, v81, v82, v83, v84, v85, v86, v87, v88, v89, v90, v91, v92, v93, v94, v95, v96, v97, v98, v99, v100, v101, v102, v103, v104, v105, v106, v107, v108, v109, v110, v111, v112, v113, v114, v115, v116, v117, v118, v119, v120, v121, v122, v123, v124, v125, v126, v127, v128, v129, v130, v131, v132, v133, v134, v135, v136, v137, v138, v139, v140, v141, v142, v143, v144, v145, v146, v147, v148, v149, v150, v151, v152, v153, x154, x155, x156, x157, x158, x159, x160, x161, x162, x163, x164, x165, x166, x167, x168, x169, x170, x171, x172, x173, v174, v175, v176, v177, v178, v179, v180, v181, v182, v183, v184, v185, v186, v187, v188, v189, v190, v191, v192, v193, v194, v195, v196, v197, v198, v199, v200, v201, v202, v203, v204, v205, v206, v207, v208, v209, v210, v211, v212, v213, v214, v215, v216, v217, v218, v219, v220, v221, v222, v223, v224, v225, v226, v227, v228, v229, v230, v231], []⟩ W')) :
    Code.wp Try.prog (ldInner 1 0) (Post R X) ⟨#[v0, v1, v2, v3, v4, v5, v6, v7, .pointer (some ⟨bj, 0, none⟩), v9, v10, v11, v12, v13, v14, v15, .slice an nn cn, .int .i64 (i : Int), v18, .bool false, .int .i64 0, v21, v22, v23, v24, v25, v26, v27, v28, v29, v30, v31, v32, v33, v34, v35, v36, v37, v38, v39, v40, v41, v42, v43, v44, v45, v46, v47, v48, v49, v50, v51, v52, v53, v54, v55, v56, v57, v58, v59, v60, v61, v62, v63, v64, v65, v66, v67, v68, v69, v70, v71, v72, v73, v74, v75, v76, v77, v78, v79, v80, v81, v82, v83, v84, v85, v86, v87, v88, v89, v90, v91, v92, v93, v94, v95, v96, v97, v98, v99, v100, v101, v102, v103, v104, v105, v106, v107, v108, v109, v110, v111, v112, v113, v114, v115, v116, v117, v118, v119, v120, v121, v122, v123, v124, v125, v126, v127, v128, v129, v130, v131, v132, v133, v134, v135, v136, v137, v138, v139, v140, v141, v142, v143, v144, v145, v146, v147, v148, v149, v150, v151, v152, v153, v154, v155, v156, v157, v158, v159, v160, v161, v162, v163, v164, v165, v166, v167, v168, v169, v170, v171, v172, v173, v174, v175, v176, v177, v178, v179, v180, v181, v182, v183, v184, v185, v186, v187, v188, v189, v190, v191, v192, v193, v194, v195, v196, v197, v198, v199, v200, v201, v202, v203, v204, v205, v206, v207, v208, v209, v210, v211, v212, v213, v214, v215, v216, v217, v218, v219, v220, v221, v222, v223, v224, v225, v226, v227, v228, v229, v230, v231], []⟩ W0 := by
  dsimp only at HEX ⊢
  conv => arg 2; whnf
  subst hn hy
  obtain ⟨a2, c2, nb, no, he, hna, hnc⟩ := HN.out _ (Below.refl _ _)
  injection he with e1 _ e3
  subst e1 e3
  obtain ⟨a3, c3, yb, yo, he, hya, hyc⟩ := HY.out _ (Below.refl _ _)
  injection he with e1 _ e3
  subst e1 e3
  obtain ⟨rfl, hnb⟩ := hna (by omega)
  have HNC := Lib.hid (show TAt W0 nb (no + i * 6) x by rw [← hx]; exact hnc i hi)
  have HYC := Lib.hid hyc
  clear hnc hyc hx HN HY
  go_loopw [20, 19] (fun k p wr => ∃ q : Nat, q ≤ YL.length ∧ k = .int .i64 (q : Int) ∧ p = .bool (isIn x (YL.take q)) ∧ Below W0.heap.size W0 wr) (fun k _ _ => YL.length - (intOf k).toNat)
  case atStart => exact ⟨0, Nat.zero_le _, rfl, rfl, Below.refl _ _⟩
  case round =>
    obtain ⟨q, hq, rfl, rfl, hB⟩ := hrel
    obtain ⟨wo, rfl⟩ : ∃ wo : World, wo = wr := ⟨_, rfl⟩
    have hj := HJ.out.below hB
    have j2 := hj.cell 2
    simp at j2
    have hjz := hj.lt
    have hN0 : ∀ n, Below wo.heap.size wo (wo.drewN n) := fun n => by have h := Below.refl wo.heap.size wo; exact ⟨h.os, h.tape, h.output, h.size, h.block⟩
    have HB := Lib.hid hB
    by_cases hlt : q < YL.length
    · obtain ⟨rfl, hyb⟩ := hya (by omega)
      obtain ⟨g0, g1, g2, g3, g4, g5⟩ := (HYC.out q hlt).below hB hyb
      obtain ⟨f0, f1, f2, f3, f4, f5⟩ := HNC.out.below hB hnb
      have hi3 : (0 : Int) ≤ (q : Int) ∧ (q : Int) < (YL.length : Int) := by omega
      have hi4 : (0 : Int) ≤ (i : Int) ∧ (i : Int) < (N.length : Int) := by omega
      have hz1 : yb < wo.heap.size := Nat.lt_of_lt_of_le hyb hB.size
      have hz2 : nb < wo.heap.size := Nat.lt_of_lt_of_le hnb hB.size
      have HTM := Lib.hid (isIn_next (x := x) hlt)
      obtain ⟨p, hp⟩ : ∃ p, isIn x (YL.take q) = p := ⟨_, rfl⟩
      rw [hp] at HTM ⊢
      generalize YL[q] = y at *
      clear hj hB hp
      obtain ⟨yn, yl, ys, yc, ylo, yhi⟩ := y
      obtain ⟨xn, xl, xs, xc, xlo, xhi⟩ := x
      simp only at g0 g1 g2 g3 g4 g5 f0 f1 f2 f3 f4 f5
      obtain ⟨dd, hdd⟩ : ∃ dd, eqT ⟨yn, yl, ys, yc, ylo, yhi⟩ ⟨xn, xl, xs, xc, xlo, xhi⟩ = dd := ⟨_, rfl⟩
      rw [hdd] at HTM
      go_upto_region 28 with fail
      cases p with
      | true =>
        clear hdd
        go_big_quiet (fail)
        all_goals (try go_wp2_with fail)
        all_goals go_roundw
        all_goals (try (case rel => exact ⟨q + 1, by omega, by go_num, by rw [HTM.out]; rfl, HB.out.trans ((hN0 _).mono HB.out.size)⟩))
        all_goals (try (case measure => simp [intOf]; omega))
      | false =>
        have hk0 : (Cd.bs ylo).toList = ylo := by rw [ByteArray.toList_mk]
        have hk1 : (Cd.bs xlo).toList = xlo := by rw [ByteArray.toList_mk]
        have hk2 : (Cd.bs yhi).toList = yhi := by rw [ByteArray.toList_mk]
        have hk3 : (Cd.bs xhi).toList = xhi := by rw [ByteArray.toList_mk]
        unfold eqT at hdd
        simp only at hdd
        have key : (yn == xn) = false ∨ (yn = xn ∧ (yl == xl) = false) ∨ (yn = xn ∧ yl = xl ∧ (ys == xs) = false) ∨ (yn = xn ∧ yl = xl ∧ ys = xs ∧ (yc == xc) = false) ∨ (yn = xn ∧ yl = xl ∧ ys = xs ∧ yc = xc ∧ (ylo == xlo) = false) ∨ (yn = xn ∧ yl = xl ∧ ys = xs ∧ yc = xc ∧ ylo = xlo ∧ (yhi == xhi) = false) ∨ (yn = xn ∧ yl = xl ∧ ys = xs ∧ yc = xc ∧ ylo = xlo ∧ yhi = xhi) := by
          by_cases h0 : yn = xn
          · by_cases h1 : yl = xl
            · by_cases h2 : ys = xs
              · by_cases h3 : yc = xc
                · by_cases h4 : ylo = xlo
                  · by_cases h5 : yhi = xhi
                    · exact .inr (.inr (.inr (.inr (.inr (.inr ⟨h0, h1, h2, h3, h4, h5⟩)))))
                    · exact .inr (.inr (.inr (.inr (.inr (.inl ⟨h0, h1, h2, h3, h4, by simpa using h5⟩)))))
                  · exact .inr (.inr (.inr (.inr (.inl ⟨h0, h1, h2, h3, by simpa using h4⟩))))
                · exact .inr (.inr (.inr (.inl ⟨h0, h1, h2, by simpa using h3⟩)))
              · exact .inr (.inr (.inl ⟨h0, h1, by simpa using h2⟩))
            · exact .inr (.inl ⟨h0, by simpa using h1⟩)
          · exact .inl (by simpa using h0)
        have HDD := Lib.hid hdd
        clear hdd hk0 hk1 hk2 hk3
        rcases key with b0 | ⟨rfl, b0⟩ | ⟨rfl, rfl, b0⟩ | ⟨rfl, rfl, rfl, b0⟩ | ⟨rfl, rfl, rfl, rfl, b0⟩ | ⟨rfl, rfl, rfl, rfl, rfl, b0⟩ | ⟨rfl, rfl, rfl, rfl, rfl, rfl⟩
        · have hd : Hid (dd = false) := by show dd = false; rw [← HDD.out]; rw [b0]; rfl
          clear HDD
          go_big_quiet (fail)
          all_goals (try go_wp2_with fail)
          all_goals go_roundw
          all_goals (try (case rel => exact ⟨q + 1, by omega, by go_num, by rw [HTM.out, hd.out]; rfl, HB.out.trans ((hN0 _).mono HB.out.size)⟩))
          all_goals (try (case measure => simp [intOf]; omega))
        · have hd : Hid (dd = false) := by show dd = false; rw [← HDD.out]; simp [b0]
          clear HDD
          go_big_quiet (fail)
          all_goals (try go_wp2_with fail)
          all_goals go_roundw
          all_goals (try (case rel => exact ⟨q + 1, by omega, by go_num, by rw [HTM.out, hd.out]; rfl, HB.out.trans ((hN0 _).mono HB.out.size)⟩))
          all_goals (try (case measure => simp [intOf]; omega))
        · have hd : Hid (dd = false) := by show dd = false; rw [← HDD.out]; simp [b0]
          clear HDD
          go_big_quiet (fail)
          all_goals (try go_wp2_with fail)
          all_goals go_roundw
          all_goals (try (case rel => exact ⟨q + 1, by omega, by go_num, by rw [HTM.out, hd.out]; rfl, HB.out.trans ((hN0 _).mono HB.out.size)⟩))
          all_goals (try (case measure => simp [intOf]; omega))
        · have hd : Hid (dd = false) := by show dd = false; rw [← HDD.out]; simp [b0]
          clear HDD
          go_big_quiet (fail)
          all_goals (try go_wp2_with fail)
          all_goals go_roundw
          all_goals (try (case rel => exact ⟨q + 1, by omega, by go_num, by rw [HTM.out, hd.out]; rfl, HB.out.trans ((hN0 _).mono HB.out.size)⟩))
          all_goals (try (case measure => simp [intOf]; omega))
        · have hd : Hid (dd = false) := by show dd = false; rw [← HDD.out]; simp [b0]
          clear HDD
          go_big_quiet (fail)
          all_goals (try go_wp2_with fail)
          all_goals go_roundw
          all_goals (try (case rel => exact ⟨q + 1, by omega, by go_num, by rw [HTM.out, hd.out]; rfl, HB.out.trans ((hN0 _).mono HB.out.size)⟩))
          all_goals (try (case measure => simp [intOf]; omega))
        · have hd : Hid (dd = false) := by show dd = false; rw [← HDD.out]; simp [b0]
          clear HDD
          go_big_quiet (fail)
          all_goals (try go_wp2_with fail)
          all_goals go_roundw
          all_goals (try (case rel => exact ⟨q + 1, by omega, by go_num, by rw [HTM.out, hd.out]; rfl, HB.out.trans ((hN0 _).mono HB.out.size)⟩))
          all_goals (try (case measure => simp [intOf]; omega))
        · have hd : Hid (dd = true) := by show dd = true; rw [← HDD.out]; simp
          clear HDD
          go_big_quiet (fail)
          all_goals (try go_wp2_with fail)
          all_goals go_roundw
          all_goals (try (case rel => exact ⟨q + 1, by omega, by go_num, by rw [HTM.out, hd.out]; rfl, HB.out.trans ((hN0 _).mono HB.out.size)⟩))
          all_goals (try (case measure => simp [intOf]; omega))
    · obtain rfl : q = YL.length := by omega
      rw [List.take_length]
      have hi3 : ¬ (YL.length : Int) < (YL.length : Int) := by omega
      clear hj
      go_wp2_with fail
      exact HEX.out _ _ _ _ _ _ _ _ _ _ _ _ _ _ _ _ _ _ _ _ _ _ HB.out
end Cp
end Go.Proofs.Ytpldfdlnhgmnaaa

/-
  CompactLeads: its second loop: To is what overlaps of the next level.
-/
namespace Go.Proofs.Ytpldfdlnhgmnaaa
open Go.RowKit
set_option linter.unusedSimpArgs false
set_option linter.unusedVariables false
namespace Cp
open Op (bytesLess)
open Mf (Tbl Lv lvV LvIn Tbs TAt TblIn uA box_lev tcs tbs_of_own tblV Post wp_post loopsOf inLoop)
theorem isIn_over {N : List Tbl} {lo hi : List UInt8} {x : Tbl} (hx : x ∈ N) : isIn x (overP lo hi N) = (!bytesLess x.hi lo && !bytesLess hi x.lo) := by
  rw [Bool.eq_iff_iff]
  unfold isIn overP
  rw [List.any_eq_true]
  constructor
  · rintro ⟨y, hy, he⟩
    rw [eqT_iff] at he
    subst he
    exact (List.mem_filter.1 hy).2
  · intro h
    exact ⟨x, List.mem_filter.2 ⟨hx, h⟩, eqT_iff.2 rfl⟩

set_option maxRecDepth 1000000 in
set_option maxHeartbeats 40000000 in
theorem ld_next (R : Act → World → Prop) (X : Nat → Act → World → Prop) (N YL : List Tbl) (lo hi : List UInt8) (bj : Nat) (lev : Int) (ax ay : Option Addr) (nx cx ny cy : Nat) (bot : Bool) (an : Option Addr) (nn cn : Nat) (W0 : World) {v0 v1 v2 v3 v4 v5 v6 v7 v9 v10 v11 v14 v15 v18 v19 v20 v21 v22 v23 v24 v25 v26 v27 v28 v29 v30 v31 v32 v33 v34 v35 v36 v37 v38 v39 v40 v41 v42 v43 v44 v45 v46 v47 v48 v49 v50 v51 v52 v53 v54 v55 v56 v57 v58 v59 v60 v61 v62 v63 v64 v65 v66 v67 v68 v69 v70 v71 v72 v73 v74 v75 v76 v77 v78 v79 v80 v81 v82 v83 v84 v85 v86 v87 v88 v89 v90 v91 v92 v93 v94 v95 v96 v97 v98 v99 v100 v101 v102 v103 v104 v105 v106 v107 v108 v109 v110 v111 v112 v113 v114 v115 v116 v117 v118 v119 v120 v121 v122 v123 v124 v125 v126 v127 v128 v129 v130 v131 v132 v133 v134 v135 v136 v137 v138 v139 v140 v141 v142 v143 v144 v145 v146 v147 v148 v149 v150 v151 v152 v153 v154 v155 v156 v157 v158 v159 v160 v161 v162 v163 v164 v165 v166 v167 v168 v169 v170 v171 v172 v173 v174 v175 v176 v177 v178 v179 v180 v181 v182 v183 v184 v185 v186 v187 v188 v189 v190 v191 v192 v193 v194 v195 v196 v197 v198 v199 v200 v201 v202 v203 v204 v205 v206 v207 v208 v209 v210 v211 v212 v213 v214 v215 v216 v217 v218 v219 v220 v221 v222 v223 v224 v225 v226 v227 v228 v229 v230 v231 : Value}
    (hn : nn = N.length) (hy : ny = YL.length) (hN : N.length ≤ 4194304) (hY : YL.length ≤ 4194304) (hov : YL = overP lo hi N)
    (HN : Hid (∀ W, Below W0.heap.size W0 W → Tbs W.heap.size W (.slice an nn cn) N)) (HY : Hid (∀ W, Below W0.heap.size W0 W → Tbs W.heap.size W (.slice ay ny cy) YL))
    (HJ : Hid (Ob.Obj W0 bj 56 [.int .i64 lev, .slice ax nx cx, .slice ay ny cy, .bool bot]))
    (HEX : Hid (∀ (x6 x17 x18 x19 x20 x141 x142 x143 x144 x145 x146 x147 x148 x149 x150 x151 x152 x153 x154 x155 x156 x157 x158 x159 x160 x161 x162 x163 x164 x165 x166 x167 x168 x169 x170 x171 x172 x173 x174 x175 x176 : Value) (W' : World), Below W0.heap.size W0 W' → X 2 ⟨#[v0, v1, v2, v3, v4, v5, x6, v7, .pointer (some ⟨bj, 0, none⟩), v9, v10, v11, .string (Cd.bs lo), .string (Cd.bs hi), v14, v15, .slice an nn cn, x17, x18, x19, x20, v21, v22, v23, v24, v25, v26, v27, v28, v29, v30, v31, v32, v33, v34, v35, v36, v37, v38, v39, v40, v41, v42, v43, v44, v45, v46, v47, v48, v49, v50, v51, v52, v53, v54, v55, v56, v57, v58, v59, v60, v61, v62, v63, v64, v65, v66, v67, v68, v69, v70, v71, v72, v73, v74, v75, v76, v77, v78, v79, v80, v81, v82, v83, v84, v85, v86, v87, v88, v89, v90, v91, v92, v93, v94, v95, v96, v97, v98, v99, v100, v101, v102, v103, v104, v105, v106, v107, v108, v109, v110, v111, v112, v113, v114, v115, v116, v117, v118, v119, v120, v121, v122, v123, v124, v125, v126, v127, v128, v129, v130, v131, v132, v133, v134, v135, v136, v137, v138, v139, v140, x141, x142, x143, x144, x145, x146, x147, x148, x149, x150, x151, x152, x153, x154, x155, x156, x157, x158, x159, x160, x161, x162, x163, x164, x165, x166, x167, x168, x169, x170, x171, x172, x173, x174, x175, x176, v177, v178, v179, v180, v181, v182, v183, v184, v185, v186, v187, v188, v189, v190, v191, v192, v193, v194, v195, v196, v197, v198, v199, v200, v201, v202, v203, v204, v205, v206, v207, v208, v209, v210, v211, v212, v213, v214, v215, v216, v217, v218, v219, v220, v221, v222, v223, v224, v225, v226, v227, v228, v229, v230, v231], []⟩ W')) :
    Code.wp Try.prog (ldLoop 1) (Post R X) ⟨#[v0, v1, v2, v3, v4, v5, v6, v7, .pointer (some ⟨bj, 0, none⟩), v9, v10, v11, .string (Cd.bs lo), .string (Cd.bs hi), v14, v15, .slice an nn cn, .int .i64 0, v18, v19, v20, v21, v22, v23, v24, v25, v26, v27, v28, v29, v30, v31, v32, v33, v34, v35, v36, v37, v38, v39, v40, v41, v42, v43, v44, v45, v46, v47, v48, v49, v50, v51, v52, v53, v54, v55, v56, v57, v58, v59, v60, v61, v62, v63, v64, v65, v66, v67, v68, v69, v70, v71, v72, v73, v74, v75, v76, v77, v78, v79, v80, v81, v82, v83, v84, v85, v86, v87, v88, v89, v90, v91, v92, v93, v94, v95, v96, v97, v98, v99, v100, v101, v102, v103, v104, v105, v106, v107, v108, v109, v110, v111, v112, v113, v114, v115, v116, v117, v118, v119, v120, v121, v122, v123, v124, v125, v126, v127, v128, v129, v130, v131, v132, v133, v134, v135, v136, v137, v138, v139, v140, v141, v142, v143, v144, v145, v146, v147, v148, v149, v150, v151, v152, v153, v154, v155, v156, v157, v158, v159, v160, v161, v162, v163, v164, v165, v166, v167, v168, v169, v170, v171, v172, v173, v174, v175, v176, v177, v178, v179, v180, v181, v182, v183, v184, v185, v186, v187, v188, v189, v190, v191, v192, v193, v194, v195, v196, v197, v198, v199, v200, v201, v202, v203, v204, v205, v206, v207, v208, v209, v210, v211, v212, v213, v214, v215, v216, v217, v218, v219, v220, v221, v222, v223, v224, v225, v226, v227, v228, v229, v230, v231], []⟩ W0 := by
  dsimp only at HEX ⊢
  conv => arg 2; whnf
  have HOVER := Lib.hid (fun (n l s c : Int) (xlo xhi : List UInt8) (W : World) => show Calls Try.prog 26 #[.agg #[.int .u64 n, .int .i64 l, .int .i64 s, .int .i64 c, .string (Cd.bs xlo), .string (Cd.bs xhi)], .string (Cd.bs lo), .string (Cd.bs hi)] W fun e w' => e = .returned (.bool (!bytesLess xhi lo && !bytesLess hi xlo)) ∧ Below W.heap.size W w' from Mf.overlapR_any ⟨n, l, s, c, xlo, xhi⟩ lo hi W)
  subst hn
  obtain ⟨a2, c2, nb, no, he, hna, hnc⟩ := HN.out _ (Below.refl _ _)
  injection he with e1 _ e3
  have HA := Lib.hid (show 0 < N.length → an = some ⟨nb, no, none⟩ ∧ nb < W0.heap.size by rw [e1]; exact hna)
  have HNC := Lib.hid hnc
  clear hnc hna e1 e3
  go_loopw [17] (fun k wr => ∃ q : Nat, q ≤ N.length ∧ k = .int .i64 (q : Int) ∧ Below W0.heap.size W0 wr) (fun k _ => N.length - (intOf k).toNat)
  case atStart => exact ⟨0, Nat.zero_le _, rfl, Below.refl _ _⟩
  case round =>
    obtain ⟨q, hq, rfl, hB⟩ := hrel
    obtain ⟨wo, rfl⟩ : ∃ wo : World, wo = wr := ⟨_, rfl⟩
    by_cases hlt : q < N.length
    · have hqN := hlt
      obtain ⟨ha, hnb⟩ := HA.out (by omega)
      obtain ⟨g0, g1, g2, g3, g4, g5⟩ := (HNC.out q hqN).below hB hnb
      have hi3 : (0 : Int) ≤ (q : Int) ∧ (q : Int) < (N.length : Int) := by omega
      have HIO := Lib.hid (isIn_over (lo := lo) (hi := hi) (List.getElem_mem hqN))
      have HX := Lib.hid (show N[q] = N[q] from rfl)
      obtain ⟨x, hx⟩ : ∃ x, N[q] = x := ⟨_, rfl⟩
      have HXE := Lib.hid hx
      rw [hx] at HIO g0 g1 g2 g3 g4 g5
      obtain ⟨xn, xl, xs, xc, xlo, xhi⟩ := x
      simp only at g0 g1 g2 g3 g4 g5 HIO
      have HV5 := Lib.hid (fun W => HOVER.out xn xl xs xc xlo xhi W)
      obtain ⟨d5, hd5⟩ : ∃ d5, (!bytesLess xhi lo && !bytesLess hi xlo) = d5 := ⟨_, rfl⟩
      rw [hd5] at HV5 HIO
      clear hd5 hx HX
      subst ha
      go_wp2_with (go_at_call 26; (with_reducible refine (HV5.out _).mono ?_); rintro r w9 ⟨rfl, hb9⟩)
      have hB9 := hB.trans (hb9.mono hB.size)
      have HN9 := Lib.hid (fun W (h : Below w9.heap.size w9 W) => HN.out W (hB9.trans (h.mono hB9.size)))
      have HY9 := Lib.hid (fun W (h : Below w9.heap.size w9 W) => HY.out W (hB9.trans (h.mono hB9.size)))
      have HJ9 := Lib.hid (HJ.out.below hB9)
      clear g0 g1 g2 g3 g4 g5
      refine wp_post (ld_among _ _ N YL q hqN ⟨xn, xl, xs, xc, xlo, xhi⟩ HXE.out bj lev ax ay nx cx ny cy bot _ N.length cn w9 rfl hy hN hY HN9 HY9 HJ9 ?_)
      intro x20 x154 x155 x156 x157 x158 x159 x160 x161 x162 x163 x164 x165 x166 x167 x168 x169 x170 x171 x172 x173 W9 hb10
      have hB10 := hB9.trans (hb10.mono hB9.size)
      rw [hov, HIO.out]
      simp only [Exit.inBlock, Exit.then, if_true]
      cases d5
      all_goals
        go_wp2_with fail
        go_roundw
        case rel => exact ⟨q + 1, by omega, by go_num, hB10⟩
        case measure => simp [intOf]; omega
    · obtain rfl : q = N.length := by omega
      have hi3 : ¬ (N.length : Int) < (N.length : Int) := by omega
      go_wp2_with fail
      exact HEX.out _ _ _ _ _ _ _ _ _ _ _ _ _ _ _ _ _ _ _ _ _ _ _ _ _ _ _ _ _ _ _ _ _ _ _ _ _ _ _ _ _ _ hB
end Cp
end Go.Proofs.Ytpldfdlnhgmnaaa

/-
  CompactLeads: its first loop: the levels of the job's tables, and the span of From.
-/
namespace Go.Proofs.Ytpldfdlnhgmnaaa
open Go.RowKit
set_option linter.unusedSimpArgs false
set_option linter.unusedVariables false
namespace Cp
open Op (bytesLess)
open Mf (Tbl Lv lvV LvIn Tbs TAt TblIn uA box_lev tcs tbs_of_own tblV Post wp_post loopsOf inLoop)
set_option maxRecDepth 1000000 in
set_option maxHeartbeats 40000000 in
theorem ld_levels (R : Act → World → Prop) (X : Nat → Act → World → Prop) (XL YL : List Tbl) (lo hi : List UInt8) (bj : Nat) (k : Nat) (ax ay : Option Addr) (nx cx ny cy : Nat) (bot : Bool) (az : Option Addr) (nz cz : Nat) (W0 : World) {v0 v1 v2 v3 v4 v5 v6 v7 v9 v10 v11 v16 v17 v18 v19 v20 v21 v22 v23 v24 v25 v26 v27 v28 v29 v30 v31 v32 v33 v34 v35 v36 v37 v38 v39 v40 v41 v42 v43 v44 v45 v46 v47 v48 v49 v50 v51 v52 v53 v54 v55 v56 v57 v58 v59 v60 v61 v62 v63 v64 v65 v66 v67 v68 v69 v70 v71 v72 v73 v74 v75 v76 v77 v78 v79 v80 v81 v82 v83 v84 v85 v86 v87 v88 v89 v90 v91 v92 v93 v94 v95 v96 v97 v98 v99 v100 v101 v102 v103 v104 v105 v106 v107 v108 v109 v110 v111 v112 v113 v114 v115 v116 v117 v118 v119 v120 v121 v122 v123 v124 v125 v126 v127 v128 v129 v130 v131 v132 v133 v134 v135 v136 v137 v138 v139 v140 v141 v142 v143 v144 v145 v146 v147 v148 v149 v150 v151 v152 v153 v154 v155 v156 v157 v158 v159 v160 v161 v162 v163 v164 v165 v166 v167 v168 v169 v170 v171 v172 v173 v174 v175 v176 v177 v178 v179 v180 v181 v182 v183 v184 v185 v186 v187 v188 v189 v190 v191 v192 v193 v194 v195 v196 v197 v198 v199 v200 v201 v202 v203 v204 v205 v206 v207 v208 v209 v210 v211 v212 v213 v214 v215 v216 v217 v218 v219 v220 v221 v222 v223 v224 v225 v226 v227 v228 v229 v230 v231 : Value}
    (hk : k < 3) (hnx : nx = XL.length) (hnz : nz = (XL ++ YL).length) (hL : (XL ++ YL).length ≤ 8388608) (hXL : ∀ x ∈ XL, x.lev = (k : Int)) (hYL : ∀ x ∈ YL, x.lev = (k : Int) + 1)
    (HT : Hid (Tbs W0.heap.size W0 (.slice az nz cz) (XL ++ YL)))
    (HJ : Hid (Ob.Obj W0 bj 56 [.int .i64 (k : Int), .slice ax nx cx, .slice ay ny cy, .bool bot]))
    (HEX : Hid (∀ (x6 x15 x75 x76 x77 x78 x79 x80 x81 x82 x83 x84 x85 x86 x87 x88 x89 x90 x91 x92 x93 x94 x95 x96 x97 x98 x99 x100 x101 x102 x103 x104 x105 x106 x107 x108 x109 x110 x111 x112 x113 x114 x115 x116 x117 x118 x119 x120 x121 x122 x123 x124 x125 x126 x127 x128 x129 x130 x131 x132 x133 x134 : Value) (W' : World), Below W0.heap.size W0 W' → X 0 ⟨#[v0, v1, v2, v3, v4, v5, x6, v7, .pointer (some ⟨bj, 0, none⟩), v9, v10, v11, .string (Cd.bs (spanF (lo, hi) XL).1), .string (Cd.bs (spanF (lo, hi) XL).2), .slice az nz cz, x15, v16, v17, v18, v19, v20, v21, v22, v23, v24, v25, v26, v27, v28, v29, v30, v31, v32, v33, v34, v35, v36, v37, v38, v39, v40, v41, v42, v43, v44, v45, v46, v47, v48, v49, v50, v51, v52, v53, v54, v55, v56, v57, v58, v59, v60, v61, v62, v63, v64, v65, v66, v67, v68, v69, v70, v71, v72, v73, v74, x75, x76, x77, x78, x79, x80, x81, x82, x83, x84, x85, x86, x87, x88, x89, x90, x91, x92, x93, x94, x95, x96, x97, x98, x99, x100, x101, x102, x103, x104, x105, x106, x107, x108, x109, x110, x111, x112, x113, x114, x115, x116, x117, x118, x119, x120, x121, x122, x123, x124, x125, x126, x127, x128, x129, x130, x131, x132, x133, x134, v135, v136, v137, v138, v139, v140, v141, v142, v143, v144, v145, v146, v147, v148, v149, v150, v151, v152, v153, v154, v155, v156, v157, v158, v159, v160, v161, v162, v163, v164, v165, v166, v167, v168, v169, v170, v171, v172, v173, v174, v175, v176, v177, v178, v179, v180, v181, v182, v183, v184, v185, v186, v187, v188, v189, v190, v191, v192, v193, v194, v195, v196, v197, v198, v199, v200, v201, v202, v203, v204, v205, v206, v207, v208, v209, v210, v211, v212, v213, v214, v215, v216, v217, v218, v219, v220, v221, v222, v223, v224, v225, v226, v227, v228, v229, v230, v231], []⟩ W')) :
    Code.wp Try.prog (ldLoop 0) (Post R X) ⟨#[v0, v1, v2, v3, v4, v5, v6, v7, .pointer (some ⟨bj, 0, none⟩), v9, v10, v11, .string (Cd.bs lo), .string (Cd.bs hi), .slice az nz cz, .int .i64 0, v16, v17, v18, v19, v20, v21, v22, v23, v24, v25, v26, v27, v28, v29, v30, v31, v32, v33, v34, v35, v36, v37, v38, v39, v40, v41, v42, v43, v44, v45, v46, v47, v48, v49, v50, v51, v52, v53, v54, v55, v56, v57, v58, v59, v60, v61, v62, v63, v64, v65, v66, v67, v68, v69, v70, v71, v72, v73, v74, v75, v76, v77, v78, v79, v80, v81, v82, v83, v84, v85, v86, v87, v88, v89, v90, v91, v92, v93, v94, v95, v96, v97, v98, v99, v100, v101, v102, v103, v104, v105, v106, v107, v108, v109, v110, v111, v112, v113, v114, v115, v116, v117, v118, v119, v120, v121, v122, v123, v124, v125, v126, v127, v128, v129, v130, v131, v132, v133, v134, v135, v136, v137, v138, v139, v140, v141, v142, v143, v144, v145, v146, v147, v148, v149, v150, v151, v152, v153, v154, v155, v156, v157, v158, v159, v160, v161, v162, v163, v164, v165, v166, v167, v168, v169, v170, v171, v172, v173, v174, v175, v176, v177, v178, v179, v180, v181, v182, v183, v184, v185, v186, v187, v188, v189, v190, v191, v192, v193, v194, v195, v196, v197, v198, v199, v200, v201, v202, v203, v204, v205, v206, v207, v208, v209, v210, v211, v212, v213, v214, v215, v216, v217, v218, v219, v220, v221, v222, v223, v224, v225, v226, v227, v228, v229, v230, v231], []⟩ W0 := by
  dsimp only at HEX ⊢
  conv => arg 2; whnf
  subst hnx
  obtain ⟨ZL, hZ⟩ : ∃ ZL, XL ++ YL = ZL := ⟨_, rfl⟩
  have HZ := Lib.hid hZ
  rw [hZ] at hnz hL HT
  subst hnz
  clear hZ
  have hxz : XL.length ≤ ZL.length := by rw [← HZ.out, List.length_append]; omega
  have HLA := Lib.hid (show ∀ q (h : q < ZL.length), q < XL.length → ZL[q].lev = (k : Int) ∧ XL.take (q + 1) = XL.take q ++ [ZL[q]] from fun q h h2 => by
    have e : ZL[q] = XL[q] := by have h3 := HZ.out; subst h3; exact List.getElem_append_left h2
    rw [e]
    exact ⟨hXL _ (List.getElem_mem h2), List.take_succ_eq_append_getElem h2⟩)
  have HLB := Lib.hid (show ∀ q (h : q < ZL.length), ¬ q < XL.length → ZL[q].lev = (k : Int) + 1 ∧ XL.take (q + 1) = XL.take q from fun q h h2 => by
    have h5 : q - XL.length < YL.length := by have h3 := HZ.out; subst h3; rw [List.length_append] at h; omega
    have e : ZL[q] = YL[q - XL.length] := by have h3 := HZ.out; subst h3; exact List.getElem_append_right (by omega)
    rw [e]
    exact ⟨hYL _ (List.getElem_mem h5), by rw [List.take_of_length_le (by omega), List.take_of_length_le (by omega)]⟩)
  obtain ⟨a2, c2, fb, fo, he, ha, hc⟩ := HT.out
  injection he with e1 _ e3
  have HA := Lib.hid (show 0 < ZL.length → az = some ⟨fb, fo, none⟩ ∧ fb < W0.heap.size by rw [e1]; exact ha)
  have HC := Lib.hid hc
  have hw1 : IntKind.i64.wrap ((k : Int) + 1) = (k : Int) + 1 := by rw [IntKind.wrap_i64]; omega
  clear hc ha e1 e3 HT hXL hYL
  go_loopw [15, 12, 13] (fun i p s wr => ∃ q : Nat, q ≤ ZL.length ∧ i = .int .i64 (q : Int) ∧ p = .string (Cd.bs (spanF (lo, hi) (XL.take q)).1) ∧ s = .string (Cd.bs (spanF (lo, hi) (XL.take q)).2) ∧ Below W0.heap.size W0 wr) (fun i _ _ _ => ZL.length - (intOf i).toNat)
  case atStart => exact ⟨0, Nat.zero_le _, rfl, rfl, rfl, Below.refl _ _⟩
  case round =>
    obtain ⟨q, hq, rfl, rfl, rfl, hB⟩ := hrel
    obtain ⟨wo, rfl⟩ : ∃ wo : World, wo = wr := ⟨_, rfl⟩
    have hj := HJ.out.below hB
    have j0 := hj.cell 0
    have j1 := hj.cell 1
    simp at j0 j1
    have hjz := hj.lt
    have hN0 : ∀ n, Below wo.heap.size wo (wo.drewN n) := fun n => by have h := Below.refl wo.heap.size wo; exact ⟨h.os, h.tape, h.output, h.size, h.block⟩
    have HB := Lib.hid hB
    by_cases hlt : q < ZL.length
    · obtain ⟨ha, hfb⟩ := HA.out (by omega)
      obtain ⟨g0, g1, g2, g3, g4, g5⟩ := (HC.out q hlt).below hB hfb
      have hi3 : (0 : Int) ≤ (q : Int) ∧ (q : Int) < (ZL.length : Int) := by omega
      have hz1 : fb < wo.heap.size := Nat.lt_of_lt_of_le hfb hB.size
      have hne : ((k : Int) + 1 == (k : Int)) = false := by simp; omega
      subst ha
      clear hj hB g0 g2 g3
      by_cases hqx : q < XL.length
      · obtain ⟨hlev, htk⟩ := HLA.out q hlt hqx
        have HN := Lib.hid (show spanF (lo, hi) (XL.take (q + 1)) = (minB (spanF (lo, hi) (XL.take q)).1 ZL[q].lo, maxB (spanF (lo, hi) (XL.take q)).2 ZL[q].hi) by rw [htk, spanF_snoc])
        have hqi : (q : Int) < (XL.length : Int) := by omega
        rw [hlev] at g1
        clear htk hlev
        generalize spanF (lo, hi) (XL.take q) = PP at *
        obtain ⟨A, B⟩ := PP
        generalize ZL[q] = y at *
        obtain ⟨yn, yl, ys, yc, ylo, yhi⟩ := y
        simp only at g4 g5 HN ⊢
        have HC4 := Lib.hid g4
        have HC5 := Lib.hid g5
        go_upto_region 14 with fail
        go_cut [115] from 81 to 115 (fun r wx => r = .bool false ∧ Below wo.heap.size wo wx)
        case first =>
          go_big_quiet (fail)
          all_goals (try go_wp2_with fail)
          all_goals (try go_meet)
          all_goals exact ⟨rfl, hN0 _⟩
        case rest =>
          obtain ⟨rfl, hb9⟩ := hcut
          have j1' := (HJ.out.below (HB.out.trans (hb9.mono HB.out.size))).cell 1
          simp at j1'
          have hjz' := (HJ.out.below (HB.out.trans (hb9.mono HB.out.size))).lt
          have g4' := (hb9.cell (p := ⟨fb, fo + q * 6 + 4, none⟩) hz1).trans HC4.out
          have g5' := (hb9.cell (p := ⟨fb, fo + q * 6 + 5, none⟩) hz1).trans HC5.out
          have hmn := fun W ts t => run_minB (P := Try.prog) W ts t A ylo
          have hmx := fun W ts t => run_maxB (P := Try.prog) W ts t B yhi
          clear g1 g4 g5 j0 j1
          go_wp2_with fail
          go_roundw
          case rel => exact ⟨q + 1, by omega, by go_num, by rw [HN.out], by rw [HN.out], HB.out.trans (hb9.mono HB.out.size)⟩
          case measure => simp [intOf]; omega
      · obtain ⟨hlev, htk⟩ := HLB.out q hlt hqx
        have HTK := Lib.hid htk
        have hqi : ¬ (q : Int) < (XL.length : Int) := by omega
        obtain ⟨m, hm⟩ : ∃ m : Int, (k : Int) + 1 = m := ⟨_, rfl⟩
        rw [hlev, hm] at g1
        have hm1 : (m == (k : Int)) = false := by rw [← hm]; exact hne
        have hm2 : (m == (k : Int) + 1) = true := by rw [hm]; simp
        have hmk : ¬ m = (k : Int) := by omega
        have hm3 : (m != (k : Int)) = true := by simp [hmk]
        have hm4 : (m != (k : Int) + 1) = false := by rw [hm]; simp
        have hmk2 : m = (k : Int) + 1 := hm.symm
        have HMK := Lib.hid hmk2
        clear htk hlev g4 g5 hm hne hmk2
        go_upto_region 14 with fail
        go_cut [115] from 81 to 115 (fun r wx => r = .bool false ∧ Below wo.heap.size wo wx)
        case first =>
          go_big_quiet (fail)
          all_goals (try go_wp2_with fail)
          all_goals (try go_meet)
          all_goals exact ⟨rfl, hN0 _⟩
        case rest =>
          obtain ⟨rfl, hb9⟩ := hcut
          have j1' := (HJ.out.below (HB.out.trans (hb9.mono HB.out.size))).cell 1
          simp at j1'
          have hjz' := (HJ.out.below (HB.out.trans (hb9.mono HB.out.size))).lt
          clear g1 j0 j1
          go_wp2_with fail
          go_roundw
          case rel => exact ⟨q + 1, by omega, by go_num, by rw [HTK.out], by rw [HTK.out], HB.out.trans (hb9.mono HB.out.size)⟩
          case measure => simp [intOf]; omega
    · obtain rfl : q = ZL.length := by omega
      rw [List.take_of_length_le hxz]
      have hi3 : ¬ (ZL.length : Int) < (ZL.length : Int) := by omega
      clear hj
      go_wp2_with fail
      exact HEX.out _ _ _ _ _ _ _ _ _ _ _ _ _ _ _ _ _ _ _ _ _ _ _ _ _ _ _ _ _ _ _ _ _ _ _ _ _ _ _ _ _ _ _ _ _ _ _ _ _ _ _ _ _ _ _ _ _ _ _ _ _ _ _ HB.out
end Cp
end Go.Proofs.Ytpldfdlnhgmnaaa
