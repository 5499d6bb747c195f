/-
  The program's memtable: the range that From makes goes through what was there when it began.
-/
import Derived.Test.YtgfpkbdinfdkfaaMemFromDev
namespace Go.Proofs.Ytgfpkbdinfdkfaa
open Go.RowKit Go.Shelf
set_option linter.unusedSimpArgs false
set_option linter.unusedVariables false
namespace Md
open Op (bytesLess)
open Mt (Ver VerIn VerW verV lessB mayB)

attribute [local go_sem] Oper.semAt_some
/-- those that were there -/
def low (ns0 : List Nd) (x : Nd) : Bool := decide (x.r < ns0.length)
theorem grown_at {ns0 ns ns' done s : List Nd} {y : Nd} (h : Grown ns0 ns) (h' : Grown ns0 ns') (he : ns = done ++ y :: s) (hy : low ns0 y = true) :
    ∃ done' s', ns' = done' ++ y :: s' ∧ s'.filter (low ns0) = s.filter (low ns0) := by
  subst he
  have h1 : ns0 = done.filter (low ns0) ++ y :: s.filter (low ns0) := by
    have : (done ++ y :: s).filter (low ns0) = ns0 := h
    rw [List.filter_append, List.filter_cons_of_pos hy] at this
    exact this.symm
  have h2 : ns'.filter (low ns0) = done.filter (low ns0) ++ y :: s.filter (low ns0) := h1 ▸ (show ns'.filter (low ns0) = ns0 from h')
  obtain ⟨a, b, rfl, h3, h4⟩ := List.filter_eq_append_iff.1 h2
  obtain ⟨c, d, rfl, h5, h6, h7⟩ := List.filter_eq_cons_iff.1 h4
  exact ⟨a ++ c, d, by simp, h7⟩
theorem nx0_link {B0 tb : Nat} {ns done s : List Nd} {y : Nd} {W : World} (hT : TabAt B0 tb ns W) (he : ns = done ++ y :: s) : W.cell? ⟨y.b, 5, none⟩ = some (nx 0 s) ∧ W.cell? ⟨y.b, 4, none⟩ = some (.int .i64 (y.r : Int)) := by
  have hyn : y ∈ ns := by rw [he]; simp
  have ho := (show Chain W (done ++ y :: s) from he ▸ hT.chain).at_
  have h0 := ndC_link y s 0 (by decide)
  unfold lk at h0
  rw [if_pos (by have := (hT.hgt y hyn).1; omega)] at h0
  exact ⟨(ho.cell 5).trans h0, ho.cell 4⟩

abbrev nils : List Value := [.pointer none, .pointer none, .pointer none, .pointer none, .pointer none, .pointer none, .pointer none, .pointer none]
theorem arr_cells {W : World} {b : Nat} {t : TypeId} (h : Ob.Obj W b t nils) :
    (W.cell? ⟨b, 0, none⟩ = some (.pointer none) ∧ W.cell? ⟨b, 1, none⟩ = some (.pointer none) ∧ W.cell? ⟨b, 2, none⟩ = some (.pointer none) ∧ W.cell? ⟨b, 3, none⟩ = some (.pointer none) ∧ W.cell? ⟨b, 4, none⟩ = some (.pointer none) ∧ W.cell? ⟨b, 5, none⟩ = some (.pointer none) ∧ W.cell? ⟨b, 6, none⟩ = some (.pointer none) ∧ W.cell? ⟨b, 7, none⟩ = some (.pointer none)) ∧
    (W.frozen? ⟨b, 0, none⟩ = false ∧ W.frozen? ⟨b, 1, none⟩ = false ∧ W.frozen? ⟨b, 2, none⟩ = false ∧ W.frozen? ⟨b, 3, none⟩ = false ∧ W.frozen? ⟨b, 4, none⟩ = false ∧ W.frozen? ⟨b, 5, none⟩ = false ∧ W.frozen? ⟨b, 6, none⟩ = false ∧ W.frozen? ⟨b, 7, none⟩ = false) ∧ b < W.heap.size :=
  ⟨⟨h.cell 0, h.cell 1, h.cell 2, h.cell 3, h.cell 4, h.cell 5, h.cell 6, h.cell 7⟩, ⟨h.frozen 0, h.frozen 1, h.frozen 2, h.frozen 3, h.frozen 4, h.frozen 5, h.frozen 6, h.frozen 7⟩, h.lt⟩

set_option maxRecDepth 100000 in
set_option maxHeartbeats 8000000 in
theorem from1_seq {B0 tb : Nat} {ns0 : List Nd} (key : List UInt8) (n : Nat) (hn : 1 ≤ n) (Bt Bk : Nat) (w : World) (hT : TabAt B0 tb ns0 w) (hL0 : ns0.length ≤ 1099511627776) (hk : key.length ≤ 140737488351232)
    (hBt : Boxed w Bt 23 (.pointer (some ⟨tb, 0, none⟩))) (hBk : Boxed w Bk 9 (.string (Cd.bs key))) :
    Sq.SeqH (Held B0 tb ns0) Fence.wide n Try.prog 37 #[.pointer (some ⟨Bt, 0, none⟩), .pointer (some ⟨Bk, 0, none⟩)] vEnc (fun k => k = Bt ∨ k = Bk) (fun ys => ys = (postOf ns0 (topV key)).map (·.v)) (fun pre => pre <+: (postOf ns0 (topV key)).map (·.v)) w := by
  intro lp J Jx W hW hJ hJx hH hY h0
  have hTW := hT.kept (hW.less (fun _ _ _ => trivial))
  have b1 := hW.boxed trivial hBt
  have b2 := hW.boxed trivial hBk
  have HTW := Lib.hid hTW
  have m0 := hTW.head.cell 8
  simp [hdC, links] at m0
  have c1 := b1.cell
  have c2 := b2.cell
  have hl1 := b1.lt
  have hl2 := b2.lt
  have htl := hTW.head.lt
  have HN := Lib.hid (fun W => newestc_any key W)
  have HLK := Lib.hid (fun W (h : TabAt B0 tb ns0 W) => look_any (topV key) W h hL0 ⟨hk, Nat.zero_le _, by show (0:Int) ≤ 18446744073709551615; omega, by show (18446744073709551615:Int) < 18446744073709551616; omega⟩)
  have HTK := Lib.hid (fun W' (hb : Below W.heap.size W W') => hTW.kept (Sq.Kept.of_below hb))
  rw [lookV_eq] at HLK
  have HTWR := Lib.hid (fun W (h : TabAt B0 tb ns0 W) => tower_next h (topV key))
  have HP0 := Lib.hid (show adP tb (preOf ns0 (topV key)) 0 = some ⟨twB tb (stJ (preOf ns0 (topV key)) 8).cur, twO (stJ (preOf ns0 (topV key)) 8).cur, none⟩ from rfl)
  have HPP := Lib.hid (pre_post ns0 (topV key)).symm
  have hfo := (hTW.foot _ (stands_foot (tb := tb) (stJ_stands (preOf ns0 (topV key)) 8) (pre_post ns0 (topV key)).symm)).2
  clear hTW hT hBt hBk
  generalize preOf ns0 (topV key) = pre at *
  generalize postOf ns0 (topV key) = post at *
  generalize verV (topV key) = tv at *
  generalize stJ pre 8 = st8 at *
  refine callsIn_of_wp Try.func37 rfl trivial ?_ rfl
  simp only [Try.ntmps37, List.size_toArray, List.length_cons, List.length_nil, Nat.reduceAdd, Nat.reduceSub, Array.replicate_succ, Array.replicate_zero, List.push_toArray, List.append_toArray, List.nil_append, List.cons_append]
  refine wpIn_wide.2 ?_
  go_upto_region 2 with fail
  go_cut [5] (fun a wx => ∃ ab, a = .pointer (some ⟨ab, 0, none⟩) ∧ Below W.heap.size W wx ∧ wx.cell? ⟨ab, 0, none⟩ = some (.pointer (adP tb pre 0)))
  case first =>
    go_region_with (first
      | (go_at_call 38; (with_reducible refine (HN.out _).mono ?_); rintro e w1 ⟨rfl, hb1⟩; have oA1 := Ob.Obj.below (b := W.heap.size) (by exact Ob.Obj.new W 65 nils) hb1; have hB1 := Below.trans (b := _) (by first | exact Below.refl W.heap.size W | exact (Below.refl W.heap.size W).drew | exact (Below.refl W.heap.size W).alloc (Nat.le_refl _) _ | exact ((Below.refl W.heap.size W).alloc (Nat.le_refl _) _).drew | exact (Below.refl W.heap.size W).drew.alloc (Nat.le_refl _) _) (hb1.mono (by first | exact Nat.le_refl W.heap.size | (simp; done) | (simp; omega))); have d1 := ((Sq.Kept.of_below (T := fun _ => True) hB1).boxed trivial b1).cell; have d2 := ((Sq.Kept.of_below (T := fun _ => True) hB1).boxed trivial b2).cell; have e1 := ((Sq.Kept.of_below (T := fun _ => True) hB1).boxed trivial b1).lt; have e2 := ((Sq.Kept.of_below (T := fun _ => True) hB1).boxed trivial b2).lt; have hz1 := hB1.size)
      | (go_at_call 38; (with_reducible refine (HN.out _).mono ?_); rintro e w1 ⟨rfl, hb1⟩; have hB1 := Below.trans (b := _) (by first | exact Below.refl W.heap.size W | exact (Below.refl W.heap.size W).drew | exact (Below.refl W.heap.size W).alloc (Nat.le_refl _) _ | exact ((Below.refl W.heap.size W).alloc (Nat.le_refl _) _).drew | exact (Below.refl W.heap.size W).drew.alloc (Nat.le_refl _) _) (hb1.mono (by first | exact Nat.le_refl W.heap.size | (simp; done) | (simp; omega))); have d1 := ((Sq.Kept.of_below (T := fun _ => True) hB1).boxed trivial b1).cell; have d2 := ((Sq.Kept.of_below (T := fun _ => True) hB1).boxed trivial b2).cell; have e1 := ((Sq.Kept.of_below (T := fun _ => True) hB1).boxed trivial b1).lt; have e2 := ((Sq.Kept.of_below (T := fun _ => True) hB1).boxed trivial b2).lt; have hz1 := hB1.size)
      | (go_at_call 32; (with_reducible refine (HLK.out _ ?_).mono ?_); exact HTK.out _ (by first | exact hB1 | exact hB1.drew | exact hB1.alloc hB1.size _ | exact (hB1.alloc hB1.size _).drew | exact hB1.drew.alloc hB1.size _); rintro e w2 ⟨rfl, hb2⟩; have oA2 := Ob.Obj.below (by exact oA1) hb2; obtain ⟨⟨x0, x1, x2, x3, x4, x5, x6, x7⟩, ⟨f0, f1, f2, f3, f4, f5, f6, f7⟩, hzA⟩ := arr_cells oA2; have hB2 := Below.trans (b := _) (by first | exact hB1 | exact hB1.drew | exact hB1.alloc hB1.size _ | exact (hB1.alloc hB1.size _).drew | exact hB1.drew.alloc hB1.size _) (hb2.mono (by first | exact hB1.size | (simp; omega))))
      | (go_at_call 32; (with_reducible refine (HLK.out _ ?_).mono ?_); exact HTK.out _ (by first | exact hB1 | exact hB1.drew | exact hB1.alloc hB1.size _ | exact (hB1.alloc hB1.size _).drew | exact hB1.drew.alloc hB1.size _); rintro e w2 ⟨rfl, hb2⟩; have oA2 := Ob.Obj.below (b := w1.heap.size) (by exact Ob.Obj.new w1 65 nils) hb2; obtain ⟨⟨x0, x1, x2, x3, x4, x5, x6, x7⟩, ⟨f0, f1, f2, f3, f4, f5, f6, f7⟩, hzA⟩ := arr_cells oA2; have hB2 := Below.trans (b := _) (by first | exact hB1 | exact hB1.drew | exact hB1.alloc hB1.size _ | exact (hB1.alloc hB1.size _).drew | exact hB1.drew.alloc hB1.size _) (hb2.mono (by first | exact hB1.size | (simp; omega))))
      | (go_at_call 32; (with_reducible refine (HLK.out _ ?_).mono ?_); exact HTK.out _ (by first | exact hB1 | exact hB1.drew | exact hB1.alloc hB1.size _ | exact (hB1.alloc hB1.size _).drew | exact hB1.drew.alloc hB1.size _); rintro e w2 ⟨rfl, hb2⟩; have hB2 := Below.trans (b := _) (by first | exact hB1 | exact hB1.drew | exact hB1.alloc hB1.size _ | exact (hB1.alloc hB1.size _).drew | exact hB1.drew.alloc hB1.size _) (hb2.mono (by first | exact hB1.size | (simp; omega)))))
    all_goals (try go_wp2_with fail)
    all_goals go_meet
    all_goals (first
      | (refine ⟨w2.heap.size, rfl, ?_⟩; exact ⟨hB2.alloc hB2.size _, (Ob.Obj.new w2 65 (adC tb pre)).cell 0⟩)
      | (refine ⟨w1.heap.size, rfl, ?_⟩; exact ⟨bel8 hB2 w1.heap.size hz1 (.pointer (adP tb pre 0)) (.pointer (adP tb pre 1)) (.pointer (adP tb pre 2)) (.pointer (adP tb pre 3)) (.pointer (adP tb pre 4)) (.pointer (adP tb pre 5)) (.pointer (adP tb pre 6)) (.pointer (adP tb pre 7)), (obj8 oA2 (.pointer (adP tb pre 0)) (.pointer (adP tb pre 1)) (.pointer (adP tb pre 2)) (.pointer (adP tb pre 3)) (.pointer (adP tb pre 4)) (.pointer (adP tb pre 5)) (.pointer (adP tb pre 6)) (.pointer (adP tb pre 7))).cell 0⟩)
      | (refine ⟨W.heap.size, rfl, ?_⟩; exact ⟨bel8 hB2 W.heap.size (Nat.le_refl _) (.pointer (adP tb pre 0)) (.pointer (adP tb pre 1)) (.pointer (adP tb pre 2)) (.pointer (adP tb pre 3)) (.pointer (adP tb pre 4)) (.pointer (adP tb pre 5)) (.pointer (adP tb pre 6)) (.pointer (adP tb pre 7)), (obj8 oA2 (.pointer (adP tb pre 0)) (.pointer (adP tb pre 1)) (.pointer (adP tb pre 2)) (.pointer (adP tb pre 3)) (.pointer (adP tb pre 4)) (.pointer (adP tb pre 5)) (.pointer (adP tb pre 6)) (.pointer (adP tb pre 7))).cell 0⟩))
  obtain ⟨ab, rfl, hB, hc⟩ := hcut
  have hTc := HTK.out _ hB
  have b0 := HTWR.out _ hTc
  rw [HP0.out] at hc
  have hJ0 := hJ _ _ _ _ _ h0 (Sq.Step.below hB)
  go_wp2_with fail
  refine (wpIn_wide (n := n)).1 ?_
  have hpl : post.length ≤ ns0.length := by have := congrArg List.length HPP.out; rw [List.length_append] at this; omega
  have HALL := Lib.hid (show post.filter (low ns0) = post from List.filter_eq_self.2 (fun x hx => by
    have := hTc.rank x (by rw [HPP.out]; exact List.mem_append_right _ hx)
    unfold low; simpa using this))
  have HGR := Lib.hid (Grown.refl hTc.rank)
  have HTC := Lib.hid hTc
  clear hTc b0 hc b1 b2 m0 c1 c2
  gi_loopg [7] (post.length * 2199023255552 + post.length) (fun gh nv wr => ∃ (pr : List Ver) (done rest ns : List Nd), nv = nx 0 rest ∧ Hid (ns = done ++ rest) ∧ Hid (TabAt B0 tb ns wr) ∧ Hid (Grown ns0 ns) ∧ ns.length ≤ 1099511627776 ∧ Hid (pr ++ (rest.filter (low ns0)).map (·.v) = post.map (·.v)) ∧ J (fun _ => False) pr wr ∧ Hid (gh = (rest.filter (low ns0)).length * 2199023255552 + rest.length))
  case atStart => exact ⟨[], pre, post, ns0, rfl, HPP, HTC, HGR, hL0, Lib.hid (by rw [HALL.out]; rfl), hJ0, Lib.hid (by rw [HALL.out])⟩
  case round =>
    obtain ⟨pr, done, rest, ns, rfl, he, hT, hG, hln, hpr, hj, hgh⟩ := hrel
    cases rest with
    | nil =>
      have e : nx 0 [] = .pointer none := rfl
      rw [e]
      have HE := Lib.hid (show pr = post.map (·.v) by have := hpr.out; simpa using this)
      clear hpr hgh e
      gi_wp2_with fail
      go_end0
      exact ⟨⟨_, rfl⟩, .inl ⟨_, by rw [← HE.out]; exact hj⟩⟩
    | cons y s =>
      have hyn : y ∈ ns := by rw [he.out]; simp
      rw [nx0_cons (hT.out.hgt y hyn).1]
      obtain ⟨k5, k4⟩ := nx0_link hT.out he.out
      have HHT := Lib.hid (hT.out.hgt y hyn)
      by_cases hlow : y.r < ns0.length
      · have hlowb : low ns0 y = true := by unfold low; simpa using hlow
        have hd2 : decide (y.r < ns0.length) = true := by simpa using hlow
        obtain ⟨e0, e1, e2, e3⟩ := ver_cells hT.out hyn
        have HOW := Lib.hid (fun W => own_any y.v W (may_wide (hT.out.may y hyn)))
        unfold verV at HOW
        have hyl := (hT.out.foot y.b (.inr ⟨y, hyn, rfl⟩)).2
        have hfs : (y :: s).filter (low ns0) = y :: s.filter (low ns0) := List.filter_cons_of_pos hlowb
        rw [hfs] at hpr hgh
        have HSP := Lib.hid (show pr ++ [y.v] <+: post.map (·.v) by rw [← hpr.out]; exact ⟨(s.filter (low ns0)).map (·.v), by simp⟩)
        have HPR := Lib.hid (show (pr ++ [y.v]) ++ (s.filter (low ns0)).map (·.v) = post.map (·.v) by rw [← hpr.out]; simp)
        have HLB := Lib.hid hlowb
        have HHJ := Lib.hid hJ
        have HHY := Lib.hid hY
        have HHH := Lib.hid hH
        clear hyn hfs hpr hlowb hJ hY hH
        gi_wp2_with (first
          | (refine ⟨trivial, ?_⟩; gi_at_call 33; refine (callsIn_wide.2 (HOW.out _)).mono ?_; rintro e w1 ⟨rfl, hb1⟩
             obtain ⟨fn, tmps, assign, body, hy, hR⟩ := HHY.out (fun _ => False) pr y.v w1 (HHJ.out _ _ _ _ _ hj (Sq.Step.below hb1)) (fun k h => h.elim) HSP.out
             have HR := Lib.hid hR
             clear hR
             simp only [vEnc] at hy))
        refine HR.out.mono ?_
        rintro e W3 (⟨rfl, hJ3, hk3⟩ | ⟨rfl, hJx3, hk3⟩)
        · obtain ⟨ns', hT3, hG3, hF3, hl3⟩ := HHH.out _ _ _ hJ3
          obtain ⟨done', s', he3, hfs⟩ := grown_at hG.out hG3 he.out HLB.out
          obtain ⟨k5', _⟩ := nx0_link hT3 he3
          have hyl3 := (hT3.foot y.b (.inr ⟨y, by rw [he3]; simp, rfl⟩)).2
          have HS3 := Lib.hid (show ns' = (done' ++ [y]) ++ s' by rw [he3]; simp)
          have HT3 := Lib.hid hT3
          have HG3 := Lib.hid hG3
          have HFS := Lib.hid hfs
          have hs3 : s'.length < 2199023255552 := by have := congrArg List.length he3; rw [List.length_append, List.length_cons] at this; omega
          clear hT3 hG3 he3 hfs hF3
          gi_wp2
          gi_roundg ((s'.filter (low ns0)).length * 2199023255552 + s'.length)
          case measure => rw [HFS.out, hgh.out, List.length_cons]; omega
          case rel => exact ⟨pr ++ [y.v], done' ++ [y], s', ns', rfl, HS3, HT3, HG3, hl3, by rw [HFS.out]; exact HPR, hJ3, rfl⟩
        · gi_wp2
          refine bodyPost_ret (results_none rfl _ _ _) rfl ?_
          first
          | exact ⟨⟨_, rfl⟩, .inr ⟨_, HSP.out, _, hJx3⟩⟩
          | exact ⟨⟨_, rfl⟩, .inr ⟨_, _, HSP.out, hJx3⟩⟩
      · have hlowb : low ns0 y = false := by unfold low; simpa using hlow
        have hd2 : decide (y.r < ns0.length) = false := by simpa using hlow
        have hfs : (y :: s).filter (low ns0) = s.filter (low ns0) := List.filter_cons_of_neg (by rw [hlowb]; simp)
        rw [hfs] at hpr hgh
        have hyl := (hT.out.foot y.b (.inr ⟨y, hyn, rfl⟩)).2
        have HS3 := Lib.hid (show ns = (done ++ [y]) ++ s by rw [he.out]; simp)
        clear hyn hfs hlowb hlow hY hH hJ hJx
        gi_wp2_with (first | (refine ⟨trivial, ?_⟩) | (refine ⟨fun _ _ => trivial, ?_⟩))
        gi_roundg ((s.filter (low ns0)).length * 2199023255552 + s.length)
        case measure => rw [hgh.out, List.length_cons]; omega
        case rel => exact ⟨pr, done ++ [y], s, ns, rfl, HS3, hT, hG, hln, hpr, hj, rfl⟩
end Md
end Go.Proofs.Ytgfpkbdinfdkfaa
