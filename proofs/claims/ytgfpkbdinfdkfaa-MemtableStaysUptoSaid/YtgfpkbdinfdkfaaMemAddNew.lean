/-
  The program's memtable: Add of a version whose place is free.
-/
import Derived.Test.YtgfpkbdinfdkfaaMemAddDev
namespace Go.Proofs.Ytgfpkbdinfdkfaa
open Go.RowKit
set_option linter.unusedSimpArgs false
set_option linter.unusedVariables false
namespace Md
open Op (bytesLess)
open Mt (Ver VerIn VerW verV lessB mayB placeB)
/-- what Add of a new one does -/
def AddedPost (B0 tb : Nat) (ns : List Nd) (v : Ver) (h : Nat) (w : World) (e : Ending) (w' : World) : Prop :=
  e = .returned (.int .i64 0) ∧ ∃ nb, TabAt B0 tb (preOf ns v ++ ⟨nb, v, h, ns.length⟩ :: postOf ns v) w' ∧ Sq.Step (Foot tb ns) (Foot tb (preOf ns v ++ ⟨nb, v, h, ns.length⟩ :: postOf ns v)) w w'

theorem sum_le {B0 tb : Nat} {ns : List Nd} {w : World} (hT : TabAt B0 tb ns w) : (ns.map fun x => x.v.key.length + x.v.val.length + 16).sum ≤ 16496 * ns.length := by
  have h := hT.may
  clear hT
  induction ns with
  | nil => simp
  | cons x r ih =>
    have hx := h x (List.mem_cons_self ..)
    unfold mayB at hx
    simp only [Bool.and_eq_true, decide_eq_true_eq] at hx
    have := ih (fun y hy => h y (List.mem_cons_of_mem _ hy))
    rw [List.map_cons, List.sum_cons, List.length_cons]
    omega
theorem LpInv.drew {tb : Nat} {ns pre post : List Nd} {v : Ver} {nb r : Nat} {many bytes : Int} {w wr : World} {ab l : Nat} (h : LpInv tb ns pre post v nb r many bytes w wr ab l) : LpInv tb ns pre post v nb r many bytes w wr.drew ab l :=
  ⟨⟨h.half.head, Chain.kept (T := fun _ => True) h.half.chain (Sq.Kept.drew _ _) (fun _ _ => trivial)⟩, h.box, h.ah, h.kept.trans (Sq.Kept.drew _ _)⟩
theorem half_tower {tb nb r l : Nat} {v : Ver} {pre post : List Nd} {many bytes : Int} {W : World} {st : St} (H : Half tb (pre ++ ⟨nb, v, l, r⟩ :: post) many bytes W) (hs : Stands pre st) (hc : ∀ c, st.cur = some c → l < c.h) (hl : l < 8) :
    W.cell? ⟨twB tb st.cur, twO st.cur + l, none⟩ = some (nx l (st.rest ++ ⟨nb, v, l, r⟩ :: post)) ∧ W.frozen? ⟨twB tb st.cur, twO st.cur + l, none⟩ = false := by
  rcases hs with ⟨h1, h2⟩ | ⟨a, c, h1, h2⟩
  · rw [h1, h2, show twB tb none = tb from rfl, show twO none + l = l by simp [twO]]
    refine ⟨?_, H.head.frozen l⟩
    rw [H.head.cell l, hdC_link _ _ _ _ hl]
    unfold lk; rw [if_pos hl]
  · have ho := (show Chain W (a ++ c :: (st.rest ++ ⟨nb, v, l, r⟩ :: post)) from by have := H.chain; rw [h2] at this; simpa using this).at_
    rw [h1, show twB tb (some c) = c.b from rfl, show twO (some c) = 5 from rfl]
    refine ⟨?_, ho.frozen _⟩
    rw [ho.cell, ndC_link _ _ _ hl]
    unfold lk; rw [if_pos (hc c h1)]
theorem half_new {tb nb r l : Nat} {v : Ver} {pre post : List Nd} {many bytes : Int} {W : World} (H : Half tb (pre ++ ⟨nb, v, l, r⟩ :: post) many bytes W) (hl : l < 8) :
    W.cell? ⟨nb, 5 + l, none⟩ = some (.pointer none) ∧ W.frozen? ⟨nb, 5 + l, none⟩ = false ∧ nb < W.heap.size := by
  have ho := H.chain.at_
  refine ⟨?_, ho.frozen _, ho.lt⟩
  rw [ho.cell, ndC_link _ _ _ hl]
  unfold lk; rw [if_neg (by simp)]
theorem half_nx {nb r l : Nat} {v : Ver} {post rest : List Nd} (hr : ∀ x ∈ rest, x.h ≤ l) : nx l (rest ++ ⟨nb, v, l, r⟩ :: post) = nx l post := by
  rw [find_cut hr]
  unfold nx
  rw [List.find?_cons_of_neg (by simp)]

set_option maxRecDepth 100000 in
set_option maxHeartbeats 8000000 in
theorem add_new {B0 tb : Nat} {ns : List Nd} (v : Ver) (hh : Nat) (w : World) (hT : TabAt B0 tb ns w) (hL : ns.length ≤ 1099511627776) (hv : VerW v) (hm : mayB v = true) (hi : 1 ≤ hh ∧ hh ≤ 8) (hth : thereN ns v = false) :
    Calls Try.prog 12 #[.pointer (some ⟨tb, 0, none⟩), verV v, .int .i64 (hh : Int)] w (AddedPost B0 tb ns v hh w) := by
  have HM := Lib.hid (fun W => mayBe_any v W hv)
  rw [hm] at HM
  have HLK := Lib.hid (fun W (h : TabAt B0 tb ns W) => look_any v W h hL hv)
  rw [lookV_eq] at HLK
  have HOW := Lib.hid (fun W => own_any v W hv)
  have hB0 : Below w.heap.size w (w.alloc (.cells #[.string (Cd.bs v.key), .int .u64 v.seq, .bool v.del, .string (Cd.bs v.val)] 33)) := (Below.refl _ _).alloc (Nat.le_refl _) _
  have o0 := Ob.Obj.new w 33 [.string (Cd.bs v.key), .int .u64 v.seq, .bool v.del, .string (Cd.bs v.val)]
  obtain ⟨hi1, hi2⟩ := hi
  have hj1 : (1 : Int) ≤ (hh : Int) := by omega
  have hj2 : (hh : Int) ≤ 8 := by omega
  have HTK := Lib.hid (fun W (hb : Below w.heap.size w W) => hT.kept (Sq.Kept.of_below hb))
  have hpost : ∀ x ∈ postOf ns v, lessB v x.v = true := fun x hx => by
    rcases there_post hT.ord v with ⟨h1, _⟩ | ⟨y, s, h1, h2⟩
    · rw [h1] at hx; cases hx
    · have hy : lessB v y.v = true := by
        rw [hth] at h2
        cases h : lessB v y.v with
        | true => rfl
        | false => rw [h] at h2; cases h2
      have ho2 : ((y :: s).map (·.v)).Pairwise fun a b => lessB a b = true := by
        have := hT.ord
        rw [← pre_post ns v, h1, List.map_append] at this
        exact (List.pairwise_append.1 this).2.1
      rw [List.map_cons, List.pairwise_cons] at ho2
      rw [h1] at hx
      rcases List.mem_cons.1 hx with rfl | hx
      · exact hy
      · exact Mt.less_trans hy (ho2.1 _ (List.mem_map_of_mem hx))
  have HPOST := Lib.hid hpost
  have HPRE := Lib.hid (pre_less ns v)
  have HPP := Lib.hid (pre_post ns v).symm
  have HTW := Lib.hid (fun W (h : TabAt B0 tb ns W) => (show W.cell? ⟨twB tb (stJ (preOf ns v) 8).cur, twO (stJ (preOf ns v) 8).cur, none⟩ = some (nx 0 (postOf ns v)) from by
    have := tower_cell h (pre_post ns v).symm (stJ_stands _ 8) (fun c hc => by have := stJ_cur _ 7 c hc; omega) (l := 0) (by decide)
    rw [Nat.add_zero] at this
    rw [this]
    exact congrArg some (find_cut (fun x hx => by have := stJ_rest (preOf ns v) 7 x hx; omega))))
  have HP0 := Lib.hid (show adP tb (preOf ns v) 0 = some ⟨twB tb (stJ (preOf ns v) 8).cur, twO (stJ (preOf ns v) 8).cur, none⟩ from rfl)
  have HTT := Lib.hid hT
  have HMM := Lib.hid hm
  unfold verV at *
  clear hm hth hpost
  show Calls _ _ _ _ (fun e w' => AddedPost B0 tb ns v hh w e w')
  have HADD : Hid (∀ e w', (e = .returned (.int .i64 0) ∧ ∃ nb, TabAt B0 tb (preOf ns v ++ ⟨nb, v, hh, ns.length⟩ :: postOf ns v) w' ∧ Sq.Step (Foot tb ns) (Foot tb (preOf ns v ++ ⟨nb, v, hh, ns.length⟩ :: postOf ns v)) w w') → AddedPost B0 tb ns v hh w e w') := Lib.hid (fun _ _ h => h)
  generalize preOf ns v = pre at *
  generalize postOf ns v = post at *
  go_enter Try.func12, Try.ntmps12
  go_upto_region 3 with (go_at_call 31; (with_reducible refine (HM.out _).mono ?_); rintro e w1 ⟨rfl, hb1⟩; have hB1 := hB0.trans (hb1.mono hB0.size); have o1 := o0.below hb1; have x0 := o1.cell 0; have x1 := o1.cell 1; have x2 := o1.cell 2; have x3 := o1.cell 3; simp at x0 x1 x2 x3)
  go_cut [7] (fun a wx => ∃ ab, a = .pointer (some ⟨ab, 0, none⟩) ∧ AdInv v w wx ab (adC tb pre))
  case first =>
    have HT1 := HTK.out _ hB1
    go_wp2_with (go_at_call 32; (with_reducible refine (HLK.out _ HT1).mono ?_); rintro e w2 ⟨rfl, hb2⟩; have hB2 := hB1.trans (hb2.mono hB1.size); have o2 := o1.below hb2)
    have hRes : AdInv v w (w2.alloc (.cells #[.pointer (adP tb pre 0), .pointer (adP tb pre 1), .pointer (adP tb pre 2), .pointer (adP tb pre 3), .pointer (adP tb pre 4), .pointer (adP tb pre 5), .pointer (adP tb pre 6), .pointer (adP tb pre 7)] 65)) w2.heap.size (adC tb pre) := ⟨hB2.alloc hB2.size _, o2.alloc _, Ob.Obj.new w2 _ _, o2.lt⟩
    go_meet
    exact ⟨w2.heap.size, rfl, hRes⟩
  obtain ⟨ab, rfl, hI⟩ := hcut
  have HTc := HTK.out _ hI.bel
  have a0 := (hI.ah.cell 0).trans (adC_get tb pre 0 (by decide))
  rw [HP0.out] at a0
  have b0 := HTW.out _ HTc
  have x0 := hI.box.cell 0
  have x1 := hI.box.cell 1
  have x2 := hI.box.cell 2
  have x3 := hI.box.cell 3
  simp at x0 x1 x2 x3
  go_upto_region 5 with fail
  go_cut [9, 48] (fun _ t wx => t = .bool false ∧ AdInv v w wx ab (adC tb pre))
  case first =>
    have HPM := Lib.hid (fun x (hx : x ∈ post) => (show x ∈ ns from by rw [HPP.out]; exact List.mem_append_right _ hx))
    cases post with
    | nil =>
      have e : nx 0 [] = .pointer none := rfl
      rw [e]
      go_big_quiet (fail)
      (try go_wp2_with fail)
      have hI2 := hI.drew nq
      go_meet
      exact ⟨rfl, hI2⟩
    | cons y s =>
      have hyn := HPM.out y (List.mem_cons_self ..)
      have e : nx 0 (y :: s) = .pointer (some ⟨y.b, 0, none⟩) := by
        unfold nx
        rw [List.find?_cons_of_pos (by have := (HTT.out.hgt y hyn).1; simp; omega)]
      rw [e]
      obtain ⟨c0, c1, c2, c3⟩ := ver_cells HTc hyn
      have hly := HPOST.out y (List.mem_cons_self ..)
      have HLS := Lib.hid (fun W => lessOk v y.v W hv (may_wide (HTT.out.may y hyn)))
      rw [hly] at HLS
      unfold verV at HLS
      clear hly hyn e
      generalize y.v = yv at *
      go_still_tail 8, (by kernel_rfl)
      change wpList _ _ _ _ _ (World.drew _)
      have hI2 := hI.drew 1
      go_wp2_with (go_at_call 17; (with_reducible refine (HLS.out _).mono ?_); rintro e w3 ⟨rfl, hb3⟩; have hI3 := hI2.below hb3)
      go_meet
      exact ⟨rfl, hI3⟩
  obtain ⟨rfl, hI⟩ := hcut
  clear b0 a0 HTc x0 x1 x2 x3
  have x0 := hI.box.cell 0
  have x1 := hI.box.cell 1
  have x2 := hI.box.cell 2
  have x3 := hI.box.cell 3
  simp at x0 x1 x2 x3
  have m0 := (HTK.out _ hI.bel).head.cell 8
  have htl := HTT.out.head.lt
  simp [hdC, links] at m0
  go_upto_region 7 with fail
  go_cut [10] (fun nv wx => ∃ nb, nv = .pointer (some ⟨nb, 0, none⟩) ∧ w.heap.size < nb ∧ ab < nb ∧ AdInv v w wx ab (adC tb pre) ∧ Ob.Obj wx nb 69 (ndC ⟨nb, v, 0, ns.length⟩ post))
  case first =>
    go_region_with (go_at_call 33; (with_reducible refine (HOW.out _).mono ?_); rintro e w3 ⟨rfl, hb3⟩; have hI3 := AdInv.below (by first | exact hI | exact hI.drew 1) hb3; have m3 := (HTK.out _ hI3.bel).head.cell 8; simp [hdC, links] at m3)
    all_goals (try go_wp2_with fail)
    all_goals go_meet
    all_goals exact ⟨_, rfl, hI3.box.lt, hI3.ah.lt, ⟨hI3.bel.alloc hI3.bel.size _, hI3.box.alloc _, hI3.ah.alloc _, hI3.abl⟩, Ob.Obj.new _ _ _⟩
  obtain ⟨nb, rfl, hnb, hab2, hI, hob⟩ := hcut
  have hTc := HTK.out _ hI.bel
  have L0 : LpInv tb ns pre post v nb ns.length (ns.length : Int) ((ns.map fun x => x.v.key.length + x.v.val.length + 16).sum : Nat) w wc ab 0 :=
    ⟨half_start ⟨by rw [← HPP.out]; exact hTc.head, by rw [← HPP.out]; exact hTc.chain⟩ hob, hI.box, hI.ah, Sq.Kept.of_below hI.bel⟩
  have habw := hI.abl
  clear hI hob hTc x0 x1 x2 x3 m0
  go_wp2_with fail
  go_loopw [58] (fun i wr => ∃ l : Nat, l ≤ hh ∧ i = .int .i64 (l : Int) ∧ LpInv tb ns pre post v nb ns.length (ns.length : Int) ((ns.map fun x => x.v.key.length + x.v.val.length + 16).sum : Nat) w wr ab l) (fun i _ => hh - (intOf i).toNat)
  case atStart => exact ⟨0, Nat.zero_le _, rfl, L0⟩
  case round =>
    obtain ⟨l, hl, rfl, hL⟩ := hrel
    by_cases hlt : l < hh
    · have hj3 : (0 : Int) ≤ (l : Int) ∧ (l : Int) < 8 := by omega
      have hst := stJ_stands pre (8 - l)
      have hrs : ∀ x ∈ (stJ pre (8 - l)).rest, x.h ≤ l := fun x hx => by
        have := stJ_rest pre (7 - l) x (by rw [show 7 - l + 1 = 8 - l by omega]; exact hx); omega
      have hcu : ∀ c, (stJ pre (8 - l)).cur = some c → l < c.h := fun c hc => by
        have := stJ_cur pre (7 - l) c (by rw [show 7 - l + 1 = 8 - l by omega]; exact hc); omega
      have HNX := Lib.hid (hL.step HTT.out HPP.out hnb habw (by omega) (by omega) hst hrs hcu)
      have a0 := (hL.ah.cell l).trans (adC_get tb pre l (by omega))
      have a1 : adP tb pre l = some ⟨twB tb (stJ pre (8 - l)).cur, twO (stJ pre (8 - l)).cur, none⟩ := rfl
      rw [a1] at a0
      have hfo := stands_foot (tb := tb) hst HPP.out
      have hfl := (HTT.out.foot _ hfo).2
      have hc0 := half_tower hL.half hst hcu (by omega : l < 8)
      have hc1 := half_new hL.half (by omega : l < 8)
      rw [half_nx hrs] at hc0
      obtain ⟨q, hq⟩ := nx_ptr l post
      rw [hq] at hc0 HNX
      generalize stJ pre (8 - l) = st at *
      obtain ⟨hc0a, hc0b⟩ := hc0
      obtain ⟨hc1a, hc1b, hnl⟩ := hc1
      have hne1 : ¬ twB tb st.cur = nb := by omega
      have hne2 : ¬ nb = twB tb st.cur := by omega
      have hwl : w.heap.size < wr.heap.size := hL.box.lt
      clear hq hrs hcu hst hfo a1
      go_wp2_with fail
      go_big_region
      all_goals (try go_wp2_with fail)
      all_goals go_roundw
      case rel => exact ⟨l + 1, by omega, by go_num, HNX.out.drew⟩
      case measure => simp [intOf]; omega
    · obtain rfl : l = hh := by omega
      have m0 := hL.half.head.cell 8
      have m1 := hL.half.head.cell 9
      have g0 := hL.half.head.frozen 8
      have g1 := hL.half.head.frozen 9
      have htl2 := hL.half.head.lt
      simp [hdC, links] at m0 m1
      have x0 := hL.box.cell 0
      have x3 := hL.box.cell 3
      simp at x0 x3
      have hwl := hL.box.lt
      have hne1 : ¬ w.heap.size = tb := by omega
      have hne2 : ¬ tb = w.heap.size := by omega
      have HD := Lib.hid (hL.done HTT.out HPP.out HPRE.out HPOST.out HMM.out ⟨hi1, hi2⟩ hnb)
      have hsum := sum_le hT
      obtain ⟨S, hS⟩ : ∃ S, S = (ns.map fun x => x.v.key.length + x.v.val.length + 16).sum := ⟨_, rfl⟩
      rw [← hS] at m1 hsum HD
      obtain ⟨v1, v2, v3, v4⟩ := hv
      have hsk : (Cd.bs v.key).size = v.key.length := rfl
      have hsv : (Cd.bs v.val).size = v.val.length := rfl
      have w1 : IntKind.i64.wrap ((v.key.length : Int) + (v.val.length : Int)) = (v.key.length : Int) + (v.val.length : Int) := by rw [IntKind.wrap_i64]; omega
      have w2 : IntKind.i64.wrap ((v.key.length : Int) + (v.val.length : Int) + 16) = (v.key.length : Int) + (v.val.length : Int) + 16 := by rw [IntKind.wrap_i64]; omega
      have w3 : IntKind.i64.wrap ((S : Int) + ((v.key.length : Int) + (v.val.length : Int) + 16)) = (S : Int) + ((v.key.length : Int) + (v.val.length : Int) + 16) := by rw [IntKind.wrap_i64]; omega
      have o2 := hL.half.head.set 8 (.int .i64 ((ns.length : Int) + 1))
      have n1 := o2.cell 9
      have n2 := o2.frozen 9
      have n3 := o2.lt
      simp [hdC, links] at n1
      have y0 := (hL.box.other (p := ⟨tb, 8, none⟩) hne1 (.int .i64 ((ns.length : Int) + 1))).cell 0
      have y3 := (hL.box.other (p := ⟨tb, 8, none⟩) hne1 (.int .i64 ((ns.length : Int) + 1))).cell 3
      simp at y0 y3
      clear hL o2
      go_upto_region 14 with fail
      rw [← hS] at n1
      clear hS
      generalize wr.setCell ⟨tb, 8, none⟩ (.int .i64 ((ns.length : Int) + 1)) = wq at *
      go_still_tail 15, (by kernel_rfl)
      change wpList _ _ _ _ _ (World.drew _)
      have HF := Lib.hid (HD.out.1.kept (Sq.Kept.drew _ _))
      have HG := Lib.hid (HD.out.2.trans (Sq.Step.drew _ _))
      have n4 : wq.drew.cell? ⟨tb, 9, none⟩ = some (.int .i64 (S : Int)) := n1
      have n5 : wq.drew.frozen? ⟨tb, 9, none⟩ = false := n2
      have n6 : tb < wq.drew.heap.size := n3
      go_wp2_with fail
      refine bodyPost_ret (v := .int .i64 0) (by simp [results, Try.results12, go_sem]) rfl ?_
      refine HADD.out _ _ ⟨rfl, nb, ?_, ?_⟩
      · exact HF.out
      · exact HG.out
end Md
end Go.Proofs.Ytgfpkbdinfdkfaa
