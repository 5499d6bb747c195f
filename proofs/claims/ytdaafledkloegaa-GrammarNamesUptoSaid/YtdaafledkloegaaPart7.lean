import Derived.Carry
import Derived.Maps.OwnIn
import Derived.Deep.QuietTactic
import Derived.BigQuiet
import Derived.Laws.CopyOwn
import Derived.Below
import Derived.WalkKit
import Derived.Test.YtdaafledkloegaaPart6
/-
  The program's read of chapter 15: it goes through events as long as each may stand.
-/
namespace Go.Proofs.Ytdaafledkloegaa
open Go.RowKit
set_option linter.unusedSimpArgs false
set_option linter.unusedVariables false
namespace Gr
open Ev (Evt EvIn hasB validB command closing zero fields Evs AtE evC evV W64)

open Go.Maps
theorem Past.none (W : World) : Past (W.alloc (.map #[] 0)) W.heap.size [] :=
  ⟨.map [], 0, World.ownsMap_made _ _ _ _, Nat.le_refl _, fun k i _ _ => rfl⟩
theorem Past.skip {W : World} {mb : Nat} {L : List Evt} (h : Past W mb L) (x : Evt) (hx : about x.kind = 0) : Past W mb (L ++ [x]) := by
  obtain ⟨D, m, h1, h2, h3⟩ := h
  refine ⟨D, m, h1, by rw [List.length_append]; omega, fun k i hk hi => ?_⟩
  rw [cnt_snoc, if_neg (fun h => h.1 hx)]
  exact h3 k i hk hi
theorem Past.set {W : World} {mb : Nat} {L : List Evt} (h : Past W mb L) {p : Addr} (hp : mb ≠ p.block) (u : Value) : Past (W.setCell p u) mb L := by
  obtain ⟨D, m, h1, h2⟩ := h
  exact ⟨D, m, h1.setCell hp u, h2⟩
theorem take_snoc {H : List Evt} {q : Nat} (h : q < H.length) : H.take (q + 1) = H.take q ++ [ev H q] := by
  rw [List.take_succ_eq_append_getElem h, ev_at h]
theorem evs_pre {B : Nat} {W : World} {a : Option Addr} {cap : Nat} {H : List Evt} (h : Evs B W (.slice a H.length cap) H) (k : Nat) (hk : k ≤ H.length) (c : Nat) : Evs B W (.slice a k c) (H.take k) := by
  obtain ⟨a', cap', b, off, h1, h2, h3⟩ := h
  injection h1 with e1 e2 e3
  subst e1
  have hlen : (H.take k).length = k := by rw [List.length_take]; omega
  refine ⟨_, c, b, off, by rw [hlen], fun h => h2 (by omega), fun j hj => ?_⟩
  rw [hlen] at hj
  rw [List.getElem_take]
  exact h3 j (by omega)
theorem evs_nil (B : Nat) (W : World) : Evs B W (.slice none 0 0) [] := ⟨none, 0, 0, 0, rfl, fun h => (by cases h), fun j hj => (by cases hj)⟩
/-- what read hands back: the events up to the first that may not stand -/
def RdOut (H : List Evt) (w : World) (e : Ending) (w' : World) : Prop :=
  ∃ (a : Option Addr) (n cap mb : Nat), e = .returned (.agg #[.slice a n cap, .map (some mb)]) ∧ n ≤ H.length ∧ (∀ j, j < n → mayB H j = true) ∧ (n < H.length → mayB H n = false) ∧
    Evs w.heap.size w' (.slice a n cap) (H.take n) ∧ Past w' mb (H.take n) ∧ Below w.heap.size w w'
/-- what stands between the rounds: the result at block s, p at block bp, its map at mb -/
structure RdS (H : List Evt) (w : World) (s mb bp : Nat) (q : Nat) (L : List Evt) (a : Option Addr) (c : Nat) (W : World) : Prop where
  may : ∀ j, j < q → mayB H j = true
  evs : Evs w.heap.size W (.slice a q c) (H.take q)
  past : Past W mb L
  obj : Ob.Obj W bp 45 [.slice a q c, .map (some mb)]
  res : Ob.Obj W s 45 [.slice none 0 0, .map none]
  below : Below w.heap.size w W
theorem RdS.stay {H L : List Evt} {w W W' : World} {s mb bp q c : Nat} {a : Option Addr} (h : RdS H w s mb bp q L a c W) (hb : Below W.heap.size W W') : RdS H w s mb bp q L a c W' :=
  ⟨h.may, h.evs.below (hb.mono h.below.size), h.past.grow hb, h.obj.below hb, h.res.below hb, h.below.trans (hb.mono h.below.size)⟩
theorem RdS.done {H : List Evt} {w W wf : World} {s mb bp q c : Nat} {a : Option Addr} (h : RdS H w s mb bp q (H.take q) a c W) (hs : w.heap.size ≤ s) (hsm : mb ≠ s)
    (hwf : ((W.setCell ⟨s, 0, none⟩ (.slice a q c)).setCell ⟨s, 1, none⟩ (.map (some mb))) = wf) (hq : q ≤ H.length) (hm : q < H.length → mayB H q = false) :
    wf.cell? ⟨s, 0, none⟩ = some (.slice a q c) ∧ wf.cell? ⟨s, 1, none⟩ = some (.map (some mb)) ∧ RdOut H w (.returned (.agg #[.slice a q c, .map (some mb)])) wf := by
  subst hwf
  have o := (h.res.set 0 (.slice a q c)).set 1 (.map (some mb))
  have hb : Below w.heap.size W ((W.setCell ⟨s, 0, none⟩ (.slice a q c)).setCell ⟨s, 1, none⟩ (.map (some mb))) := ((Below.refl _ _).setCell hs _).setCell hs _
  exact ⟨by rw [o.cell]; rfl, by rw [o.cell]; rfl, a, q, c, mb, rfl, hq, h.may, hm, h.evs.below hb, (h.past.set (p := ⟨s, 0, none⟩) hsm _).set (p := ⟨s, 1, none⟩) hsm _, h.below.trans hb⟩
theorem RdS.next {H L : List Evt} {w W : World} {s mb bp q c cap : Nat} {a a0 : Option Addr} (h : RdS H w s mb bp q L a c W) (hbp : w.heap.size ≤ bp) (h1 : mb ≠ bp) (h2 : s ≠ bp) (hm : mayB H q = true)
    (hE : ∀ X, Below w.heap.size w X → Evs w.heap.size X (.slice a0 (q + 1) cap) (H.take (q + 1))) : RdS H w s mb bp (q + 1) L a0 cap (W.setCell ⟨bp, 0, none⟩ (.slice a0 (q + 1) cap)) := by
  have hb : Below w.heap.size w (W.setCell ⟨bp, 0, none⟩ (.slice a0 (q + 1) cap)) := h.below.setCell hbp _
  exact ⟨fun j hj => if e : j = q then e ▸ hm else h.may j (by omega), hE _ hb, h.past.set h1 _, h.obj.set 0 _, h.res.other h2 _, hb⟩
theorem RdS.drew {H L : List Evt} {w W : World} {s mb bp q c : Nat} {a : Option Addr} (h : RdS H w s mb bp q L a c W) : RdS H w s mb bp q L a c W.drew := ⟨h.may, h.evs, h.past, h.obj, h.res, h.below.drew⟩
theorem RdS.skip {H : List Evt} {w W : World} {s mb bp q c : Nat} {a : Option Addr} (h : RdS H w s mb bp (q + 1) (H.take q) a c W) (hq : q < H.length) (hx : about (ev H q).kind = 0) : RdS H w s mb bp (q + 1) (H.take (q + 1)) a c W :=
  ⟨h.may, h.evs, by rw [take_snoc hq]; exact h.past.skip _ hx, h.obj, h.res, h.below⟩
theorem RdS.put {H : List Evt} {w W W2 : World} {s mb bp q c : Nat} {a : Option Addr} (h : RdS H w s mb bp (q + 1) (H.take q) a c W) (hq : q < H.length) (hP : Past W2 mb (H.take q ++ [ev H q])) (hT : W.mapTurned W2 mb)
    (hmb : w.heap.size ≤ mb) (h1 : mb ≠ bp) (h2 : s ≠ mb) : RdS H w s mb bp (q + 1) (H.take (q + 1)) a c W2 := by
  have hg := hT.grown
  have hb : Below w.heap.size W W2 := (Below.refl _ _).grown hg h.below.size (fun k hk => by cases hk; exact hmb)
  exact ⟨h.may, h.evs.below hb, by rw [take_snoc hq]; exact hP, h.obj.grown hg (fun e => h1 (by cases e; rfl)), h.res.grown hg (fun e => h2 (by cases e; rfl)), h.below.trans hb⟩

set_option maxRecDepth 100000 in
set_option maxHeartbeats 16000000 in
theorem read_any (hv : Value) (H : List Evt) (w : World) (hr : Room hv) (hE : Evs w.heap.size w hv H) (hAll : ∀ x ∈ H, EvIn x) (hl : H.length ≤ 1048576) :
    Calls Try.prog 17 #[hv] w (RdOut H w) := by
  have hmm := @run_makeMap Try.prog
  have HST := Lib.hid (fun (q : Nat) (hq : q < H.length) (hm : ∀ j, j < q → mayB H j = true) => st_may hq hm)
  have HEV := Lib.hid (fun q (hq : q < H.length) => show EvIn (ev H q) from by rw [ev_at hq]; exact hAll _ (List.getElem_mem hq))
  have HSD := Lib.hid (fun q (hq : q < H.length) (v : Value) mb W (hP : Past W mb (H.take q)) (hE2 : Evs W.heap.size W v (H.take q)) => stand_any v mb (H.take q) (ev H q) W hP hE2 (fun y hy => hAll y (List.mem_of_mem_take hy)) (by rw [List.length_take]; omega) (by rw [ev_at hq]; exact hAll _ (List.getElem_mem hq)))
  have HAB := Lib.hid (fun k W => about_any k W)
  obtain ⟨a0, n0, cap, rfl, hroom⟩ := hr
  have hn0 : n0 = H.length := by
    obtain ⟨_, _, _, _, h, _⟩ := hE
    injection h
  subst hn0
  have HPR := Lib.hid (fun k hk W (hb : Below w.heap.size w W) => show Evs w.heap.size W (.slice a0 k cap) (H.take k) from evs_pre (hE.below hb) k hk cap)
  obtain ⟨a1, cap1, b, off, h1, ha, hc⟩ := hE
  injection h1 with e1 _ e3
  subst e1 e3
  have HA := Lib.hid ha
  have HC := Lib.hid (fun j (hj : j < H.length) => show AtE w b (off + j * 9) (ev H j) from by rw [ev_at hj]; exact hc j hj)
  clear ha hc hAll
  -- the worlds ahead of the loop
  obtain ⟨w0, hw0⟩ : ∃ w0, w.alloc (.cells #[.slice none 0 0, .map none] 45) = w0 := ⟨_, rfl⟩
  have o0 := Ob.Obj.new w 45 [.slice none 0 0, .map none]
  rw [show w.alloc (.cells ([.slice none 0 0, .map none] : List Value).toArray 45) = w0 from hw0] at o0
  have hB0 : Below w.heap.size w w0 := by rw [← hw0]; exact (Below.refl _ _).alloc (Nat.le_refl _) _
  obtain ⟨w1, hw1⟩ : ∃ w1, w0.alloc (.map #[] 0) = w1 := ⟨_, rfl⟩
  have p1 : Past w1 w0.heap.size [] := by rw [← hw1]; exact Past.none w0
  have hB1 : Below w.heap.size w w1 := by rw [← hw1]; exact hB0.alloc hB0.size _
  have o1 : Ob.Obj w1 w.heap.size 45 [.slice none 0 0, .map none] := by rw [← hw1]; exact o0.alloc _
  obtain ⟨w2, hw2⟩ : ∃ w2, w1.alloc (.cells #[.slice none 0 0, .map (some w0.heap.size)] 45) = w2 := ⟨_, rfl⟩
  have o2 := Ob.Obj.new w1 45 [.slice none 0 0, .map (some w0.heap.size)]
  rw [show w1.alloc (.cells ([.slice none 0 0, .map (some w0.heap.size)] : List Value).toArray 45) = w2 from hw2] at o2
  have hB2 : Below w.heap.size w w2 := by rw [← hw2]; exact hB1.alloc hB1.size _
  have p2 : Past w2 w0.heap.size [] := by rw [← hw2]; exact p1.grow ((Below.refl _ _).alloc (Nat.le_refl _) _)
  have r2 : Ob.Obj w2 w.heap.size 45 [.slice none 0 0, .map none] := by rw [← hw2]; exact o1.alloc _
  have HS0 := Lib.hid (show RdS H w w.heap.size w0.heap.size w1.heap.size 0 [] none 0 w2 from ⟨fun j h => absurd h (by omega), evs_nil _ _, p2, o2, r2, hB2⟩)
  have hs0 := hB0.size
  have hs1 : w0.heap.size + 1 = w1.heap.size := by rw [← hw1]; simp
  have hs01 : w.heap.size + 1 = w0.heap.size := by rw [← hw0]; simp
  have hs2 := hB1.size
  clear p1 p2 o0 o1 o2 r2 hB0 hB1 hB2
  go_enter Try.func17, Try.ntmps17
  go_wp2_with fail
  go_loopw [10] (fun i wr => ∃ (q : Nat) (a' : Option Addr) (c' : Nat), q ≤ H.length ∧ i = .int .i64 (q : Int) ∧ RdS H w w.heap.size w0.heap.size w1.heap.size q (H.take q) a' c' wr) (fun i _ => H.length - (intOf i).toNat)
  case atStart => exact ⟨0, none, 0, Nat.zero_le _, rfl, HS0.out⟩
  case round =>
    obtain ⟨q, a', c', hq, rfl, hS⟩ := hrel
    obtain ⟨wo, rfl⟩ : ∃ wo : World, wo = wr := ⟨_, rfl⟩
    by_cases hlt : q < H.length
    · obtain ⟨rfl, hbl⟩ := HA.out (by omega)
      have hAT := (HC.out q hlt).below hS.below hbl
      have e0 := hAT 0 (by decide)
      have e1 := hAT 1 (by decide)
      have e2 := hAT 2 (by decide)
      have e3 := hAT 3 (by decide)
      have e4 := hAT 4 (by decide)
      have e5 := hAT 5 (by decide)
      have e6 := hAT 6 (by decide)
      have e7 := hAT 7 (by decide)
      have e8 := hAT 8 (by decide)
      have hi1 : (0 : Int) ≤ (q : Int) ∧ (q : Int) < (H.length : Int) := by omega
      have hi3 : (0 : Int) ≤ (q : Int) + 1 ∧ (q : Int) + 1 ≤ (cap : Int) ∧ (q : Int) + 1 ≤ (H.length : Int) := by omega
      have hwq : IntKind.i64.wrap ((q : Int) + 1) = (q : Int) + 1 := by rw [IntKind.wrap_i64]; omega
      have hbl2 : b < wo.heap.size := Nat.lt_of_lt_of_le hbl hS.below.size
      have hst := HST.out q hlt hS.may
      have HSQ := Lib.hid (HSD.out q hlt (.slice a' q c') w0.heap.size)
      have HXI := HEV.out q hlt
      have HPQ := Lib.hid (HPR.out (q + 1) hlt)
      have HSK := Lib.hid (fun W (h : RdS H w w.heap.size w0.heap.size w1.heap.size (q + 1) (H.take q) (some ⟨b, off, none⟩) cap W) (hx : about (ev H q).kind = 0) => h.skip hlt hx)
      have HSP := Lib.hid (fun W W2 (h : RdS H w w.heap.size w0.heap.size w1.heap.size (q + 1) (H.take q) (some ⟨b, off, none⟩) cap W) (hP : Past W2 w0.heap.size (H.take q ++ [ev H q])) (hT : W.mapTurned W2 w0.heap.size) => h.put hlt hP hT (by omega) (by omega) (by omega))
      have HPP := Lib.hid (fun W (h : Past W w0.heap.size (H.take q)) (hx : about (ev H q).kind ≠ 0) => h.put (ev H q) hx HXI.kind HXI.a (by rw [List.length_take]; omega))
      clear hAT HC HA HPR HEV HSD HST
      rw [hst] at HSQ
      generalize hxx : ev H q = x at *
      obtain ⟨xi, xt, xk, xa, xb, xc, xd, xe, xf⟩ := x
      unfold evC at e0 e1 e2 e3 e4 e5 e6 e7 e8
      simp only [List.getElem?_cons_zero, List.getElem?_cons_succ, Nat.add_zero] at e0 e1 e2 e3 e4 e5 e6 e7 e8
      unfold evV at HSQ
      simp only at HSQ HSK HPP HSP
      obtain ⟨w3, hw3⟩ : ∃ w3, wo.alloc (.cells #[.int .i64 xi, .int .i64 xt, .int .i64 xk, .int .i64 xa, .int .i64 xb, .int .i64 xc, .int .i64 xd, .int .i64 xe, .int .i64 xf] 41) = w3 := ⟨_, rfl⟩
      have oX := Ob.Obj.new wo 41 [.int .i64 xi, .int .i64 xt, .int .i64 xk, .int .i64 xa, .int .i64 xb, .int .i64 xc, .int .i64 xd, .int .i64 xe, .int .i64 xf]
      rw [show wo.alloc (.cells ([.int .i64 xi, .int .i64 xt, .int .i64 xk, .int .i64 xa, .int .i64 xb, .int .i64 xc, .int .i64 xd, .int .i64 xe, .int .i64 xf] : List Value).toArray 41) = w3 from hw3] at oX
      have hB3 : Below w.heap.size w w3 := by rw [← hw3]; exact hS.below.alloc hS.below.size _
      have hS3 := hS.stay (W' := w3) (by rw [← hw3]; exact (Below.refl _ _).alloc (Nat.le_refl _) _)
      have HSW := Lib.hid (HSQ.out w3 hS3.past (hS3.evs.grow (Below.refl _ _) hS3.below.size))
      have HS3 := Lib.hid hS3
      have p0 := hS3.obj.cell 0
      have p1 := hS3.obj.cell 1
      have hpl := hS3.obj.lt
      have hxl := oX.lt
      have x0 := oX.cell 0
      have x1 := oX.cell 1
      have x2 := oX.cell 2
      have x3 := oX.cell 3
      have x4 := oX.cell 4
      have x5 := oX.cell 5
      have x6 := oX.cell 6
      have x7 := oX.cell 7
      have x8 := oX.cell 8
      simp at p0 p1 x0 x1 x2 x3 x4 x5 x6 x7 x8
      have HXO := Lib.hid oX
      have hwl := Lib.hid (show w1.heap.size < wo.heap.size from hS.obj.lt)
      clear HSQ hS hS3 hB3 oX hst
      cases hmq : mayB H q with
      | false =>
        rw [hmq] at HSW
        clear HSK HSP HPP HXI HPQ
        go_wp2_with (go_at_call 24; (with_reducible refine HSW.out.mono ?_); rintro e w4 ⟨rfl, hb4⟩; have hS4 := HS3.out.stay hb4; have P0 := hS4.obj.cell 0; have P1 := hS4.obj.cell 1; have hPl := hS4.obj.lt; have R0 := hS4.res.cell 0; have R1 := hS4.res.cell 1; have F0 := hS4.res.frozen 0; have F1 := hS4.res.frozen 1; have hRl := hS4.res.lt; simp at P0 P1 R0 R1; obtain ⟨wf, hwf⟩ : ∃ wf, ((w4.setCell ⟨w.heap.size, 0, none⟩ (.slice a' q c')).setCell ⟨w.heap.size, 1, none⟩ (.map (some w0.heap.size))) = wf := ⟨_, rfl⟩; have HD := Lib.hid (hS4.done (Nat.le_refl _) (by omega) hwf hq (fun _ => hmq)); have z0 := HD.out.1; have z1 := HD.out.2.1)
        exact bodyPost_ret (v := .agg #[.slice a' q c', .map (some w0.heap.size)]) (by simp [results, Try.results17, go_sem, z0, z1]) rfl HD.out.2.2
      | true =>
        rw [hmq] at HSW
        by_cases hab : about xk = 0
        · have hab2 := hab
          rw [← hab] at hab2
          clear hab2
          have HABX := Lib.hid (fun W => HAB.out xk W)
          rw [hab] at HABX
          clear HAB HPP HSP
          go_wp2_with (first
            | (go_at_call 24; (with_reducible refine HSW.out.mono ?_); rintro e w4 ⟨rfl, hb4⟩; have hS4 := HS3.out.stay hb4; have P0 := hS4.obj.cell 0; have P1 := hS4.obj.cell 1; have hPl := hS4.obj.lt; have F0 := hS4.obj.frozen 0; have oX4 := HXO.out.below hb4; simp at P0 P1; obtain ⟨w5, hw5⟩ : ∃ w5, w4.setCell ⟨w1.heap.size, 0, none⟩ (.slice (some ⟨b, off, none⟩) (q + 1) cap) = w5 := ⟨_, rfl⟩; have hS5 := hS4.next (a0 := some ⟨b, off, none⟩) (cap := cap) (by omega) (by omega) (by omega) hmq HPQ.out; have hsl := HS3.out.obj.lt; have hws : w1.heap.size < wo.heap.size := hwl.out; have oX5 := oX4.other (p := ⟨w1.heap.size, 0, none⟩) (by show wo.heap.size ≠ w1.heap.size; omega) (.slice (some ⟨b, off, none⟩) (q + 1) cap); rw [hw5] at hS5 oX5; have Q0 := hS5.obj.cell 0; have Q1 := hS5.obj.cell 1; have hQl := hS5.obj.lt; have Y0 := oX5.cell 0; have Y1 := oX5.cell 1; have Y2 := oX5.cell 2; have Y3 := oX5.cell 3; have Y4 := oX5.cell 4; have Y5 := oX5.cell 5; have Y6 := oX5.cell 6; have Y7 := oX5.cell 7; have Y8 := oX5.cell 8; have hYl := oX5.lt; simp at Q0 Q1 Y0 Y1 Y2 Y3 Y4 Y5 Y6 Y7 Y8; clear oX4 hS4)
            | (go_at_call 25; (with_reducible refine (HABX.out _).mono ?_); rintro e w6 ⟨rfl, rfl⟩))
          go_roundw
          case rel => exact ⟨q + 1, _, cap, by omega, by go_num, HSK.out _ hS5 hab⟩
          case measure => simp [intOf]; omega
        · have hab0 : (about xk != 0) = true := by simpa using hab
          have hab1 : (about xk == 0) = false := by simpa using hab
          have HABX := Lib.hid (fun W => HAB.out xk W)
          clear HAB HSK
          have HPX := Lib.hid (fun W h => HPP.out W h hab)
          clear HPP
          generalize about xk = ak at *
          go_wp2_with (first
            | (go_at_call 24; (with_reducible refine HSW.out.mono ?_); rintro e w4 ⟨rfl, hb4⟩; have hS4 := HS3.out.stay hb4; have P0 := hS4.obj.cell 0; have P1 := hS4.obj.cell 1; have hPl := hS4.obj.lt; have F0 := hS4.obj.frozen 0; have oX4 := HXO.out.below hb4; simp at P0 P1; obtain ⟨w5, hw5⟩ : ∃ w5, w4.setCell ⟨w1.heap.size, 0, none⟩ (.slice (some ⟨b, off, none⟩) (q + 1) cap) = w5 := ⟨_, rfl⟩; have hS5 := hS4.next (a0 := some ⟨b, off, none⟩) (cap := cap) (by omega) (by omega) (by omega) hmq HPQ.out; have hsl := HS3.out.obj.lt; have hws : w1.heap.size < wo.heap.size := hwl.out; have oX5 := oX4.other (p := ⟨w1.heap.size, 0, none⟩) (by show wo.heap.size ≠ w1.heap.size; omega) (.slice (some ⟨b, off, none⟩) (q + 1) cap); rw [hw5] at hS5 oX5; have Q0 := hS5.obj.cell 0; have Q1 := hS5.obj.cell 1; have hQl := hS5.obj.lt; have Y0 := oX5.cell 0; have Y1 := oX5.cell 1; have Y2 := oX5.cell 2; have Y3 := oX5.cell 3; have Y4 := oX5.cell 4; have Y5 := oX5.cell 5; have Y6 := oX5.cell 6; have Y7 := oX5.cell 7; have Y8 := oX5.cell 8; have hYl := oX5.lt; simp at Q0 Q1 Y0 Y1 Y2 Y3 Y4 Y5 Y6 Y7 Y8; clear oX4 hS4)
            | (go_at_call 25; (with_reducible refine (HABX.out _).mono ?_); rintro e w6 ⟨rfl, rfl⟩))
          obtain ⟨st, W1, W2, hl1, hE1, hl2, hE2, hP2, hT2⟩ := HPX.out w5.drew hS5.drew.past
          have hSW := HSP.out w5.drew W2 hS5.drew hP2 hT2
          have hSW2 := Lib.hid hSW
          clear hSW hP2 hT2
          have hcl := cnt_le (H.take q) xk xa
          rw [List.length_take] at hcl
          have hwc : IntKind.i64.wrap ((cnt (H.take q) xk xa : Int) + 1) = (cnt (H.take q) xk xa : Int) + 1 := by rw [IntKind.wrap_i64]; omega
          clear hcl
          simp only [goInt] at hE1 hE2
          generalize cnt (H.take q) xk xa = cc at *
          refine wp_region_noPanic ?_
          go_region
          refine NoPanic.normal ?_
          go_wp2_with fail
          go_roundw
          case rel => exact ⟨q + 1, _, cap, by omega, by go_num, hSW2.out⟩
          case measure => simp [intOf]; omega
    · obtain rfl : q = H.length := by omega
      have P0 := hS.obj.cell 0
      have P1 := hS.obj.cell 1
      have hPl := hS.obj.lt
      have R0 := hS.res.cell 0
      have R1 := hS.res.cell 1
      have F0 := hS.res.frozen 0
      have F1 := hS.res.frozen 1
      have hRl := hS.res.lt
      simp at P0 P1 R0 R1
      obtain ⟨wf, hwf⟩ : ∃ wf, ((wo.setCell ⟨w.heap.size, 0, none⟩ (.slice a' H.length c')).setCell ⟨w.heap.size, 1, none⟩ (.map (some w0.heap.size))) = wf := ⟨_, rfl⟩
      have HD := Lib.hid (hS.done (Nat.le_refl _) (by omega) hwf hq (fun h => absurd h (by omega)))
      have z0 := HD.out.1
      have z1 := HD.out.2.1
      clear hS HST HEV HSD HAB HPR HA HC
      go_wp2_with fail
      exact bodyPost_ret (v := .agg #[.slice a' H.length c', .map (some w0.heap.size)]) (by simp [results, Try.results17, go_sem, z0, z1]) rfl HD.out.2.2

end Gr
end Go.Proofs.Ytdaafledkloegaa

/-
  The program's Check and Close of chapter 15.
-/
namespace Go.Proofs.Ytdaafledkloegaa
open Go.RowKit
set_option linter.unusedSimpArgs false
set_option linter.unusedVariables false
namespace Gr
open Ev (Evt EvIn hasB validB command closing zero fields Evs AtE evC evV W64)

theorem rd_full {H : List Evt} {n : Nat} (h : check H = (0, 0)) (hn : n ≤ H.length) (hm : n < H.length → mayB H n = false) : n = H.length := by
  apply Decidable.byContradiction
  intro hne
  have h1 := hm (by omega)
  rw [check_ok.1 (show (check H).1 = 0 by rw [h]) n (by omega)] at h1
  cases h1
theorem rd_bad {H : List Evt} {n k : Nat} (h : check H = (52, k)) (hn : n ≤ H.length) (hj : ∀ j, j < n → mayB H j = true) (hm : n < H.length → mayB H n = false) : n = k := by
  obtain ⟨h1, h2, h3⟩ := check_bad h
  rcases Nat.lt_trichotomy n k with h4 | h4 | h4
  · have := hm (by omega); rw [h3 n h4] at this; cases this
  · exact h4
  · have := hj k h4; rw [h2] at this; cases this
/-- what read leaves of a history, and of what is none -/
def RdAll (H : List Evt) (w : World) (e : Ending) (w' : World) : Prop :=
  ∃ (a : Option Addr) (cap mb : Nat), e = .returned (.agg #[.slice a H.length cap, .map (some mb)]) ∧ Evs w.heap.size w' (.slice a H.length cap) H ∧ Past w' mb H ∧ Below w.heap.size w w'
def RdBad (H : List Evt) (k : Nat) (w : World) (e : Ending) (w' : World) : Prop :=
  ∃ (a : Option Addr) (cap mb : Nat), e = .returned (.agg #[.slice a k cap, .map (some mb)]) ∧ Below w.heap.size w w'
theorem RdOut.full {H : List Evt} {w w' : World} {e : Ending} (h : RdOut H w e w') (hc : check H = (0, 0)) : RdAll H w e w' := by
  obtain ⟨a, n, cap, mb, rfl, hn, hj, hm, hE, hP, hb⟩ := h
  obtain rfl := rd_full hc hn hm
  rw [List.take_length] at hE hP
  exact ⟨a, cap, mb, rfl, hE, hP, hb⟩
theorem RdOut.bad {H : List Evt} {w w' : World} {e : Ending} {k : Nat} (h : RdOut H w e w') (hc : check H = (52, k)) : RdBad H k w e w' := by
  obtain ⟨a, n, cap, mb, rfl, hn, hj, hm, hE, hP, hb⟩ := h
  obtain rfl := rd_bad hc hn hj hm
  exact ⟨a, cap, mb, rfl, hb⟩
theorem read_full (hv : Value) (H : List Evt) (w : World) (hr : Room hv) (hE : Evs w.heap.size w hv H) (hAll : ∀ x ∈ H, EvIn x) (hl : H.length ≤ 1048576) (hc : check H = (0, 0)) :
    Calls Try.prog 17 #[hv] w (RdAll H w) := (read_any hv H w hr hE hAll hl).mono fun e w' h => h.full hc
theorem read_bad (hv : Value) (H : List Evt) (w : World) (hr : Room hv) (hE : Evs w.heap.size w hv H) (hAll : ∀ x ∈ H, EvIn x) (hl : H.length ≤ 1048576) {k : Nat} (hc : check H = (52, k)) :
    Calls Try.prog 17 #[hv] w (RdBad H k w) := (read_any hv H w hr hE hAll hl).mono fun e w' h => h.bad hc

set_option maxRecDepth 100000 in
set_option maxHeartbeats 8000000 in
theorem checkOk : CheckOk := by
  intro hv H w hr hE hAll hl
  have HF := Lib.hid (fun h => read_full hv H w hr hE hAll hl h)
  have HBD := Lib.hid (fun k (h : check H = (52, k)) => read_bad hv H w hr hE hAll hl h)
  obtain ⟨a0, n0, cap0, rfl, _⟩ := hr
  have hn0 : n0 = H.length := by
    obtain ⟨_, _, _, _, h, _⟩ := hE
    injection h
  subst hn0
  clear hE hAll
  rcases check_cases H with h | ⟨k, h⟩
  · have HRD := Lib.hid (HF.out h)
    rw [h]
    unfold RdAll at HRD
    clear HF HBD h
    go_enter Try.func8, Try.ntmps8
    go_wp2_with (go_at_call 17; (with_reducible refine HRD.out.mono ?_); rintro e w1 ⟨a, cap, mb, rfl, hE1, hP1, hb1⟩; obtain ⟨wx, hwx⟩ : ∃ wx, w1.alloc (.cells #[.slice a H.length cap, .map (some mb)] 45) = wx := ⟨_, rfl⟩; have oX := Ob.Obj.new w1 45 [.slice a H.length cap, .map (some mb)]; rw [show w1.alloc (.cells ([.slice a H.length cap, .map (some mb)] : List Value).toArray 45) = wx from hwx] at oX; have hBx : Below w.heap.size w wx := (by rw [← hwx]; exact hb1.alloc hb1.size _); have x0 := oX.cell 0; have x1 := oX.cell 1; have hxl := oX.lt; simp at x0 x1)
    all_goals go_ret2
    all_goals exact ⟨rfl, hBx⟩
  · have hk := (check_bad h).1
    have HRD := Lib.hid (HBD.out k h)
    rw [h]
    unfold RdBad at HRD
    clear HF HBD h
    have hki : (k : Int) < (H.length : Int) := by omega
    go_enter Try.func8, Try.ntmps8
    go_wp2_with (go_at_call 17; (with_reducible refine HRD.out.mono ?_); rintro e w1 ⟨a, cap, mb, rfl, hb1⟩; obtain ⟨wx, hwx⟩ : ∃ wx, w1.alloc (.cells #[.slice a k cap, .map (some mb)] 45) = wx := ⟨_, rfl⟩; have oX := Ob.Obj.new w1 45 [.slice a k cap, .map (some mb)]; rw [show w1.alloc (.cells ([.slice a k cap, .map (some mb)] : List Value).toArray 45) = wx from hwx] at oX; have hBx : Below w.heap.size w wx := (by rw [← hwx]; exact hb1.alloc hb1.size _); have x0 := oX.cell 0; have x1 := oX.cell 1; have hxl := oX.lt; simp at x0 x1)
    go_quiet (fail)
    go_wp2_with fail
    all_goals go_ret2
    all_goals exact ⟨rfl, belowN hBx _⟩

set_option maxRecDepth 100000 in
set_option maxHeartbeats 8000000 in
theorem closeOk : CloseOk := by
  intro hv H w hr hE hAll hl
  have HF := Lib.hid (fun h => read_full hv H w hr hE hAll hl h)
  have HBD := Lib.hid (fun k (h : check H = (52, k)) => read_bad hv H w hr hE hAll hl h)
  obtain ⟨a0, n0, cap0, rfl, _⟩ := hr
  have hn0 : n0 = H.length := by
    obtain ⟨_, _, _, _, h, _⟩ := hE
    injection h
  subst hn0
  clear hE hAll
  rcases check_cases H with h | ⟨k, h⟩
  · have HRD := Lib.hid (HF.out h)
    have HCL := Lib.hid (fun v mb W (hE : Evs W.heap.size W v H) => closed_any v mb H W hE hl)
    have hcl : close H = if clB H = true then ((H.length : Int) - 1, 0) else (-1, 0) := by
      unfold close clB
      rw [if_neg (by rw [h]; simp)]
      simp
    rw [hcl]
    unfold RdAll at HRD
    clear HF HBD h hcl
    have hwl : 0 < H.length → IntKind.i64.wrap ((H.length : Int) - 1) = (H.length : Int) - 1 := fun h => by rw [IntKind.wrap_i64]; omega
    have hpl : clB H = true → 0 < H.length := fun h => by unfold clB at h; simp at h; exact h.1
    cases hcb : clB H with
    | true =>
      rw [hcb] at HCL
      have hwl2 := hwl (hpl hcb)
      clear hwl hpl hcb
      go_enter Try.func13, Try.ntmps13
      go_wp2_with (first | (go_at_call 17; (with_reducible refine HRD.out.mono ?_); rintro e w1 ⟨a, cap, mb, rfl, hE1, hP1, hb1⟩; obtain ⟨wx, hwx⟩ : ∃ wx, w1.alloc (.cells #[.slice a H.length cap, .map (some mb)] 45) = wx := ⟨_, rfl⟩; have oX := Ob.Obj.new w1 45 [.slice a H.length cap, .map (some mb)]; rw [show w1.alloc (.cells ([.slice a H.length cap, .map (some mb)] : List Value).toArray 45) = wx from hwx] at oX; have hBx : Below w.heap.size w wx := (by rw [← hwx]; exact hb1.alloc hb1.size _); have x0 := oX.cell 0; have x1 := oX.cell 1; have hxl := oX.lt; simp at x0 x1; have hEx := (hE1.below (show Below w.heap.size w1 wx from by rw [← hwx]; exact (Below.refl _ _).alloc hb1.size _)).grow (Below.refl _ _) hBx.size) | (go_at_call 22; (with_reducible refine (HCL.out _ _ _ hEx).mono ?_); rintro e w3 ⟨rfl, hb3⟩))
      all_goals go_ret2
      all_goals exact ⟨rfl, hBx.trans (hb3.mono hBx.size)⟩
    | false =>
      rw [hcb] at HCL
      clear hwl hpl hcb
      go_enter Try.func13, Try.ntmps13
      go_wp2_with (first | (go_at_call 17; (with_reducible refine HRD.out.mono ?_); rintro e w1 ⟨a, cap, mb, rfl, hE1, hP1, hb1⟩; obtain ⟨wx, hwx⟩ : ∃ wx, w1.alloc (.cells #[.slice a H.length cap, .map (some mb)] 45) = wx := ⟨_, rfl⟩; have oX := Ob.Obj.new w1 45 [.slice a H.length cap, .map (some mb)]; rw [show w1.alloc (.cells ([.slice a H.length cap, .map (some mb)] : List Value).toArray 45) = wx from hwx] at oX; have hBx : Below w.heap.size w wx := (by rw [← hwx]; exact hb1.alloc hb1.size _); have x0 := oX.cell 0; have x1 := oX.cell 1; have hxl := oX.lt; simp at x0 x1; have hEx := (hE1.below (show Below w.heap.size w1 wx from by rw [← hwx]; exact (Below.refl _ _).alloc hb1.size _)).grow (Below.refl _ _) hBx.size) | (go_at_call 22; (with_reducible refine (HCL.out _ _ _ hEx).mono ?_); rintro e w3 ⟨rfl, hb3⟩))
      all_goals go_ret2
      all_goals exact ⟨rfl, hBx.trans (hb3.mono hBx.size)⟩
  · have hk := (check_bad h).1
    have HRD := Lib.hid (HBD.out k h)
    have hcl : close H = (0, 52) := by unfold close; rw [if_pos (by rw [h]; simp)]
    rw [hcl]
    unfold RdBad at HRD
    clear HF HBD h hcl
    have hki : (k : Int) < (H.length : Int) := by omega
    go_enter Try.func13, Try.ntmps13
    go_wp2_with (go_at_call 17; (with_reducible refine HRD.out.mono ?_); rintro e w1 ⟨a, cap, mb, rfl, hb1⟩; obtain ⟨wx, hwx⟩ : ∃ wx, w1.alloc (.cells #[.slice a k cap, .map (some mb)] 45) = wx := ⟨_, rfl⟩; have oX := Ob.Obj.new w1 45 [.slice a k cap, .map (some mb)]; rw [show w1.alloc (.cells ([.slice a k cap, .map (some mb)] : List Value).toArray 45) = wx from hwx] at oX; have hBx : Below w.heap.size w wx := (by rw [← hwx]; exact hb1.alloc hb1.size _); have x0 := oX.cell 0; have x1 := oX.cell 1; have hxl := oX.lt; simp at x0 x1)
    all_goals go_ret2
    all_goals exact ⟨rfl, hBx⟩

end Gr
end Go.Proofs.Ytdaafledkloegaa

/-
  The program's Open of chapter 15 (a range over event.Of).
-/
namespace Go.Proofs.Ytdaafledkloegaa
open Go.RowKit Go.Shelf
set_option linter.unusedSimpArgs false
set_option linter.unusedVariables false
namespace Gr
open Ev (Evt EvIn hasB validB command closing zero fields Evs AtE evC evV W64)
open Ev (iC OT oEnc cloneI_any ints_of_own wk wkN wkN_yes wkN_no wkN_wk of1_seq)
attribute [local go_sem] Oper.semAt_some
/-- what Of leaves -/
def OfOut (lv : Value) (ks : List Int) (w : World) (e : Ending) (w' : World) : Prop :=
  ∃ (B2 : Nat) (r : Value), e = .returned (.func (.func 30) #[] #[.pointer (some ⟨w.heap.size, 0, none⟩), .pointer (some ⟨B2, 0, none⟩)]) ∧ Boxed w' w.heap.size 22 lv ∧ w.heap.size < B2 ∧ Boxed w' B2 31 r ∧ w'.ownsRow w.heap.size 3 1 r ks.length (iC ks) ∧ Below w.heap.size w w'

set_option maxRecDepth 100000 in
set_option maxHeartbeats 4000000 in
theorem of_any (lv kv : Value) (ks : List Int) (w : World) (hl : ∃ a n c, lv = .slice a n c) (hK : Fi.Ints w.heap.size w kv ks) (hks : ks.length ≤ 1048576) :
    Calls Try.prog 19 #[lv, kv] w (OfOut lv ks w) := by
  obtain ⟨a, n, c, rfl⟩ := hl
  have bL := Boxed.new w 22 (.slice a n c)
  have hA : Below w.heap.size w (w.alloc (.cells #[.slice a n c] 22)) := (Below.refl _ _).alloc (Nat.le_refl _) _
  have HC := Lib.hid (cloneI_any kv ks (w.alloc (.cells #[.slice a n c] 22)) (by
    obtain ⟨a, cap, b, off, h1, h2, h3⟩ := hK.below hA
    exact ⟨a, cap, b, off, h1, fun h => ⟨(h2 h).1, by simp; have := (h2 h).2; omega⟩, h3⟩) (by omega))
  obtain ⟨a2, cap2, kb, ko, rfl, _⟩ := hK
  have hsA : (w.alloc (.cells #[.slice a n c] 22)).heap.size = w.heap.size + 1 := by simp
  go_enter Try.func19, Try.ntmps19
  go_wp2_with (go_at_call 29; (with_reducible refine HC.out.mono ?_); rintro e w1 ⟨r, rfl, hr, hb1⟩; obtain ⟨ra, rc, rfl, _⟩ := Sq.row_cases hr)
  go_ret
  have hb1' : Below w.heap.size w w1 := hA.trans (hb1.mono (by omega))
  refine ⟨w1.heap.size, _, rfl, ?_, ?_, Boxed.new w1 _ _, ?_, hb1'.alloc hb1'.size _⟩
  · exact ((Sq.Kept.of_below (T := fun _ => True) hb1).boxed trivial bL).alloc _
  · have := hb1.size; omega
  · have hlow : w1.ownsRow w.heap.size 3 1 (.slice ra ks.length rc) ks.length (iC ks) := by
      rcases hr with ⟨h0, h1 | ⟨g, cap', cur, h1, h2, h3⟩⟩
      · exact ⟨h0, .inl h1⟩
      · exact ⟨h0, .inr ⟨g, cap', cur, h1, by omega, h3⟩⟩
    exact hlow.alloc _

theorem wkN_mem {L : List Evt} {ks : List Int} : ∀ (n : Nat) (p : Nat × Evt), p ∈ wkN L ks n → L[p.1]? = some p.2
  | 0, p, h => by cases h
  | n + 1, p, h => by
    rw [wkN] at h
    rcases List.mem_append.1 h with h | h
    · exact wkN_mem n p h
    · cases hx : L[n]? with
      | none => rw [hx] at h; cases h
      | some x =>
        rw [hx] at h
        by_cases hb : hasB ks x.kind = true
        · simp only [hb, if_true, List.mem_singleton] at h
          subst h
          exact hx
        · simp [hb] at h
theorem wkN_len (L : List Evt) (ks : List Int) : ∀ n, (wkN L ks n).length ≤ n
  | 0 => Nat.le_refl _
  | n + 1 => by
    have := wkN_len L ks n
    rw [wkN, List.length_append]
    cases L[n]? with
    | none => simp; omega
    | some x =>
      by_cases h : hasB ks x.kind = true
      · simp [h]; omega
      · simp [h]; omega
theorem wk_next {L : List Evt} {ks : List Int} {pre : List (Nat × Evt)} {p : Nat × Evt} (h : pre ++ [p] <+: wk L ks) : pre.length < L.length ∧ L[p.1]? = some p.2 := by
  obtain ⟨t, ht⟩ := h
  have h1 : (wk L ks)[pre.length]? = some p := by rw [← ht]; simp
  have h2 := (List.getElem?_eq_some_iff.1 h1).1
  have h3 := wkN_len L ks L.length
  exact ⟨by unfold wk at h2; omega, wkN_mem _ p (by rw [← wk]; exact List.mem_of_getElem? h1)⟩
/-- what is open of those told -/
def opL (H : List Evt) (pre : List (Nat × Evt)) : List Nat := (pre.filter fun p => awB H p.2).map (·.1)
theorem opL_yes {H : List Evt} {pre : List (Nat × Evt)} {p : Nat × Evt} (h : awB H p.2 = true) : opL H (pre ++ [p]) = opL H pre ++ [p.1] := by simp [opL, h]
theorem opL_no {H : List Evt} {pre : List (Nat × Evt)} {p : Nat × Evt} (h : awB H p.2 = false) : opL H (pre ++ [p]) = opL H pre := by simp [opL, h]
theorem opL_len (H : List Evt) (pre : List (Nat × Evt)) : (opL H pre).length ≤ pre.length := by
  unfold opL
  rw [List.length_map]
  exact List.length_filter_le _ _
theorem ends_hasB (k : Int) : hasB [3, 4, 5, 21] k = !(endsOf k).isEmpty := by
  rw [hasB_cons (by simp)]
  unfold endsOf
  by_cases h3 : k = 3
  · simp [h3]
  · by_cases h4 : k = 4
    · simp [h4]
    · by_cases h5 : k = 5
      · simp [h5]
      · by_cases h6 : k = 21
        · simp [h6]
        · simp [h3, h4, h5, h6]
theorem open_aw {H : List Evt} {n : Nat} (hm : mayB H n = true) : openB H n = awB H (ev H n) := by
  unfold openB awB
  rw [may_id hm]
  have : namedB H H.length ((n : Int) + 1) (endsOf (ev H n).kind) = nmd H ((n : Int) + 1) (endsOf (ev H n).kind) := by
    unfold namedB nmd
    rw [List.take_length]
  rw [this]
theorem opL_wk {H : List Evt} (hc : ∀ j, j < H.length → mayB H j = true) : ∀ n, n ≤ H.length → opL H (wkN H [3, 4, 5, 21] n) = openN H n
  | 0, _ => rfl
  | n + 1, h => by
    have hn : n < H.length := h
    rw [openN_snoc, open_aw (hc n hn), ev_at hn]
    by_cases hb : hasB [3, 4, 5, 21] H[n].kind = true
    · rw [wkN_yes hn hb]
      cases ha : awB H H[n] with
      | true => rw [opL_yes ha, opL_wk hc n (by omega)]; rfl
      | false => rw [opL_no ha, opL_wk hc n (by omega)]; simp
    · have hb2 : hasB [3, 4, 5, 21] H[n].kind = false := by simpa using hb
      have ha : awB H H[n] = false := by
        unfold awB
        rw [← ends_hasB, hb2]; rfl
      rw [wkN_no hn hb2, opL_wk hc n (by omega), ha]; simp
theorem Past.kept {T : Sq.Blocks} {W W' : World} {mb : Nat} {L : List Evt} (h : Past W mb L) (hk : Sq.Kept T W W') (hT : T mb) : Past W' mb L := by
  have hl := h.lt
  obtain ⟨D, m, h1, h2⟩ := h
  refine ⟨D, m, ?_, h2⟩
  obtain ⟨es, clock, hb, r⟩ := h1
  exact ⟨es, clock, (hk.block mb hT hl).trans hb, r⟩
/-- between the rounds of the range -/
def opI (H : List Evt) (c5 N0 : Nat) (w3 : World) (R : Sq.Blocks) (pre : List (Nat × Evt)) (X : World) : Prop :=
  (∃ s, (X.ownsRow N0 3 1 s (opL H pre).length (iN (opL H pre)) ∧ ∀ g, s.ownBlock = some g → ¬ R g) ∧ (Boxed X c5 31 s ∧ ¬ R c5)) ∧ (Sq.Kept (fun b => b < c5) w3 X ∧ ∀ b, b < c5 → b < w3.heap.size → ¬ R b)
theorem opI_steady (H : List Evt) (c5 N0 : Nat) (w3 : World) : Sq.Steady (opI H c5 N0 w3) :=
  (Sq.Steady.ex fun s => (Sq.Steady.row N0 3 1 (fun _ => s) (fun pre => (opL H pre).length) (fun pre => iN (opL H pre))).and (Sq.Steady.box _ _ _)).and (Sq.Steady.kept _ _)

set_option maxRecDepth 100000 in
set_option maxHeartbeats 16000000 in
theorem openOk : OpenOk := by
  intro hv H w hr hE hAll hl
  obtain ⟨i0, hi0, hz0, hz1, hz2⟩ := info_parts infor_int
  have HF := Lib.hid (fun h => read_full hv H w hr hE hAll hl h)
  have HBD := Lib.hid (fun k (h : check H = (52, k)) => read_bad hv H w hr hE hAll hl h)
  obtain ⟨a0, n0, cap0, rfl, _⟩ := hr
  have hn0 : n0 = H.length := by
    obtain ⟨_, _, _, _, h, _⟩ := hE
    injection h
  subst hn0
  rcases check_cases H with h | ⟨k, h⟩
  · have HRD := Lib.hid (HF.out h)
    have hop : opn H = (openN H H.length, 0) := by unfold opn; rw [if_neg (by rw [h]; simp)]
    have HMAY := Lib.hid (check_ok.1 (show (check H).1 = 0 by rw [h]))
    have HEV := Lib.hid hE
    have HALL := Lib.hid hAll
    have HSB := Lib.hid (fun k (h0 : 0 < H.length) (h : (Value.slice a0 H.length cap0).ownBlock = some k) => show k < w.heap.size from by
      obtain ⟨a, c, b, o, e, h2, _⟩ := hE
      injection e with e1 e2 e3
      obtain ⟨h3, h4⟩ := h2 h0
      rw [e1, h3] at h
      simp [Value.ownBlock] at h
      omega)
    have HOF := Lib.hid (fun W g (hK : Fi.Ints W.heap.size W (.slice (some ⟨g, 0, none⟩) 4 4) [3, 4, 5, 21]) => of_any (.slice a0 H.length cap0) (.slice (some ⟨g, 0, none⟩) 4 4) [3, 4, 5, 21] W ⟨_, _, _, rfl⟩ hK (by simp))
    unfold RdAll at HRD
    unfold OfOut at HOF
    clear HF HBD h hE hAll
    refine (callsIn_wide (n := 12)).1 ?_
    refine callsIn_of_wp_marks Try.func11 rfl trivial ?_ rfl
    refine wpIn_wide.2 ?_
    simp only [Try.ntmps11, List.size_toArray, List.length_cons, List.length_nil, Nat.reduceAdd, Nat.reduceSub, Array.replicate_succ, Array.replicate_zero, List.push_toArray, List.append_toArray, List.nil_append, List.cons_append]
    go_wp2_with (first | (go_at_call 17; (with_reducible refine HRD.out.mono ?_); rintro e w1 ⟨a, cap, mb, rfl, hE1, hP1, hb1⟩; obtain ⟨wx, hwx⟩ : ∃ wx, w1.alloc (.cells #[.slice a H.length cap, .map (some mb)] 45) = wx := ⟨_, rfl⟩; have oX := Ob.Obj.new w1 45 [.slice a H.length cap, .map (some mb)]; rw [show w1.alloc (.cells ([.slice a H.length cap, .map (some mb)] : List Value).toArray 45) = wx from hwx] at oX; have hBx : Below w.heap.size w wx := (by rw [← hwx]; exact hb1.alloc hb1.size _); have x0 := oX.cell 0; have x1 := oX.cell 1; have hxl := oX.lt; simp at x0 x1; obtain ⟨wy, hwy⟩ : ∃ wy, wx.alloc (.cells #[.slice none 0 0] 31) = wy := ⟨_, rfl⟩; obtain ⟨wq, hwq⟩ : ∃ wq, wy.alloc (.cells #[.int .i64 3, .int .i64 4, .int .i64 5, .int .i64 21] 3) = wq := ⟨_, rfl⟩; have oK := Ob.Obj.new wy 3 [.int .i64 3, .int .i64 4, .int .i64 5, .int .i64 21]; rw [show wy.alloc (.cells ([.int .i64 3, .int .i64 4, .int .i64 5, .int .i64 21] : List Value).toArray 3) = wq from hwq] at oK) | (go_at_call 19; (with_reducible refine (HOF.out _ _ (ints_new (ks := [3, 4, 5, 21]) oK)).mono ?_); rintro e w3 ⟨B2, r, rfl, hbL, hB2, hbK, hrow, hb3⟩))
    have hs1 := hb1.size
    have hsx : wx.heap.size ≤ w1.heap.size + 1 ∧ w1.heap.size + 1 ≤ wx.heap.size := by rw [← hwx]; simp
    have hsy : wy.heap.size ≤ wx.heap.size + 1 ∧ wx.heap.size + 1 ≤ wy.heap.size := by rw [← hwy]; simp
    have hsk : wq.heap.size ≤ wy.heap.size + 1 ∧ wy.heap.size + 1 ≤ wq.heap.size := by rw [← hwq]; simp
    have hs3 := hb3.size
    have hmb := hP1.lt
    have h1x : Below w1.heap.size w1 wx := by rw [← hwx]; exact (Below.refl _ _).alloc (Nat.le_refl _) _
    have hxy : Below wx.heap.size wx wy := by rw [← hwy]; exact (Below.refl _ _).alloc (Nat.le_refl _) _
    have hyk : Below wy.heap.size wy wq := by rw [← hwq]; exact (Below.refl _ _).alloc (Nat.le_refl _) _
    have hx3 : Below wx.heap.size wx w3 := hxy.trans ((hyk.mono (by omega)).trans (hb3.mono (by omega)))
    have oX3 := oX.below hx3
    have hP3 := (hP1.grow h1x).grow hx3
    have hB3 := hBx.trans (hx3.mono hBx.size)
    have b5 : Boxed w3 wx.heap.size 31 (.slice none 0 0) := by
      have h0 : Boxed wy wx.heap.size 31 (.slice none 0 0) := by rw [← hwy]; exact Boxed.new wx _ _
      exact (Sq.Kept.of_below (T := fun _ => True) (hyk.trans (hb3.mono (by omega)))).boxed trivial h0
    have hE3 : Evs w3.heap.size w3 (.slice a0 H.length cap0) H := HEV.out.grow hB3 hB3.size
    have hK3 : Fi.Ints w3.heap.size w3 r [3, 4, 5, 21] := ints_of_own hrow
    have hTN : ∀ k, OT wq.heap.size B2 (.slice a0 H.length cap0) r H.length [3, 4, 5, 21].length k → k < w3.heap.size ∧ k ≠ wx.heap.size := by
      rintro k (rfl | rfl | ⟨h0, h⟩ | ⟨h0, h⟩)
      · exact ⟨hbL.lt, by omega⟩
      · exact ⟨hbK.lt, by omega⟩
      · have := HSB.out k h0 h
        exact ⟨by omega, by omega⟩
      · have := Ob.row_lt hrow h
        exact ⟨by omega, by omega⟩
    have HTN := Lib.hid hTN
    have HWK := Lib.hid (show opL H (wk H [3, 4, 5, 21]) = openN H H.length from opL_wk HMAY.out H.length (Nat.le_refl _))
    clear hTN hwx hwy hwq hxy hyk h1x oX oK x0 x1 hP1 HMAY HRD HOF HSB
    refine (wpIn_wide (n := 12)).1 ?_
    refine Sq.wp_range rfl (by omega) (gf := 30) (lb := #[.pointer (some ⟨wq.heap.size, 0, none⟩), .pointer (some ⟨B2, 0, none⟩)]) rfl trivial (enters_of Try.func30 (by kernel_rfl) rfl)
      (of1_seq 11 (by omega) H [3, 4, 5, 21] (.slice a0 H.length cap0) r wq.heap.size B2 w3 hbL hbK hE3 hK3 hl (by simp)) (fun k hk => (HTN.out k hk).1) (fun _ => rfl)
      (opI H wx.heap.size w3.heap.size w3) (fun _ _ _ _ => False)
      (fun a' x R pre X => opI H wx.heap.size w3.heap.size w3 R pre X ∧ ∃ Bf, (Ob.Obj X Bf 41 (evC x.2) ∧ ¬ R Bf ∧ w3.heap.size ≤ Bf) ∧
        a' = { tmps := #[.slice a0 H.length cap0, undef, .slice none 0 0, .int .i64 0, .pointer (some ⟨w1.heap.size, 0, none⟩), .pointer (some ⟨wx.heap.size, 0, none⟩), .int .i64 (x.1 : Int), .pointer (some ⟨Bf, 0, none⟩), .slice a0 H.length cap0, .agg #[.slice a H.length cap, .map (some mb)], .pointer (some ⟨w1.heap.size, 0, none⟩), .slice a H.length cap, .int .i64 (H.length : Int), .slice a0 H.length cap0, .int .i64 (H.length : Int), .bool false, .slice a0 H.length cap0, .slice (some ⟨wy.heap.size, 0, none⟩) 4 4, .func (.func 30) #[] #[.pointer (some ⟨wq.heap.size, 0, none⟩), .pointer (some ⟨B2, 0, none⟩)], .int .i64 (x.1 : Int), evV x.2, undef, undef, undef, undef, undef, undef, undef, undef], defers := [] })
      (opI_steady _ _ _ _) (fun c => (fun _ _ _ _ _ h _ => h.elim))
      (fun a' x => (opI_steady _ _ _ _).and (Sq.Steady.ex fun Bf => (show Sq.Steady (fun R (_ : List (Nat × Evt)) X => Ob.Obj X Bf 41 (evC x.2) ∧ ¬ R Bf ∧ w3.heap.size ≤ Bf) from fun R R' s X X' h st => by
        obtain ⟨h1, h2⟩ := Sq.step_obj st h.1 h.2.1
        exact ⟨h1, h2, h.2.2⟩).and (fun _ _ _ _ _ hs _ => hs)))
      ⟨⟨_, ⟨World.ownsRow_nil _ _ _ _, fun g hg => (by cases hg)⟩, b5, fun h => h⟩, Sq.Kept.refl _ _, fun _ _ _ h => h⟩ ?assign ?body ?done ?stop
    case assign =>
      rintro lp R pre ⟨xi, x⟩ X hbd hsp hi
      have hsz : w3.heap.size ≤ X.heap.size := hi.2.1.size
      obtain ⟨x0, x1, x2, x3, x4, x5, x6, x7, x8⟩ := x
      simp only [oEnc, evV]
      gi_wp2
      refine ⟨Sq.Kept.alloc _ _ _, opI_steady _ _ _ _ _ _ _ _ _ hi (Sq.Step.alloc0 _ _ _), X.heap.size, ⟨Ob.Obj.new X 41 (evC ⟨x0, x1, x2, x3, x4, x5, x6, x7, x8⟩), fun h => by have := hbd _ h; omega, hsz⟩, ?_⟩
      first | rfl | trivial
    case body =>
      rintro lp R pre ⟨xi, x⟩ a' X hRl hrec hbd hsp ⟨⟨⟨sv, ⟨hown, hsR⟩, hbv, hnv⟩, hk, hnk⟩, Bf, ⟨hf, hnf, hNf⟩, rfl⟩
      obtain ⟨hpl, hxm⟩ := wk_next hsp
      have hxH : x ∈ H := List.mem_of_getElem? hxm
      have hxI := HALL.out x hxH
      obtain ⟨ao, cp, rfl, _⟩ := Sq.row_cases hown
      have hsX := hk.size
      have oXX := oX3.kept hk (by omega)
      have HPX := hP3.kept hk (by omega)
      have HAW := Lib.hid (awaits_any a H.length cap mb H x X HPX hl hxI)
      have HLO := Lib.hid (fun g (hg : (Value.slice ao (opL H pre).length cp).ownBlock = some g) => Ob.row_lt hown hg)
      have hol := opL_len H pre
      have HYES := Lib.hid (fun (h : awB H x = true) => opL_yes (H := H) (pre := pre) (p := (xi, x)) h)
      have HNO := Lib.hid (fun (h : awB H x = false) => opL_no (H := H) (pre := pre) (p := (xi, x)) h)
      have HSR := Lib.hid hsR
      have HBD := Lib.hid hbd
      have HRK := Lib.hid hrec
      have HOWN := Lib.hid hown
      have HK := Lib.hid hk
      clear hrec hsR hbd hown hsp HPX
      have p0 := oXX.cell 0
      have p1 := oXX.cell 1
      have hpx := oXX.lt
      have hfl := hf.lt
      simp at p0 p1
      have e0 := hf.cell 0
      have e1 := hf.cell 1
      have e2 := hf.cell 2
      have e3 := hf.cell 3
      have e4 := hf.cell 4
      have e5 := hf.cell 5
      have e6 := hf.cell 6
      have e7 := hf.cell 7
      have e8 := hf.cell 8
      unfold evC at e0 e1 e2 e3 e4 e5 e6 e7 e8
      simp only [List.getElem?_cons_zero, List.getElem?_cons_succ] at e0 e1 e2 e3 e4 e5 e6 e7 e8
      have HBV := Lib.hid hbv
      clear hbv oXX hf
      generalize opL H pre = O1 at *
      generalize hO2 : opL H (pre ++ [(xi, x)]) = O2 at *
      cases haw : awB H x with
      | false =>
        obtain rfl : O2 = O1 := HNO.out haw
        rw [haw] at HAW
        unfold evV at HAW
        clear HYES HNO haw hxm hxH hxI
        obtain ⟨x0, x1, x2, x3, x4, x5, x6, x7, x8⟩ := x
        gi_wp2_with (refine ⟨trivial, ?_⟩; gi_at_call 20; refine (CallsIn.inRound lp (callsIn_wide.2 HAW.out)).mono ?_; rintro e w5 ⟨rfl, hb5⟩; have k5 := Sq.Kept.of_below (T := fun _ => True) hb5)
        refine ⟨k5.less fun _ _ _ => trivial, ⟨.slice ao O2.length cp, ⟨by rw [hO2]; exact Sq.row_kept HOWN.out k5 (fun _ _ => trivial), HSR.out⟩, k5.boxed trivial HBV.out, hnv⟩, HK.out.trans (k5.less fun _ _ _ => trivial), hnk⟩
      | true =>
        obtain rfl : O2 = O1 ++ [xi] := HYES.out haw
        rw [haw] at HAW
        unfold evV at HAW
        have hxi : xi < 1048576 := by
          have := (List.getElem?_eq_some_iff.1 hxm).1
          simp at this; omega
        clear HYES HNO haw hxm hxH hxI
        obtain ⟨x0, x1, x2, x3, x4, x5, x6, x7, x8⟩ := x
        gi_wp2_with (first | (refine ⟨trivial, ?_⟩; gi_at_call 20; refine (CallsIn.inRound lp (callsIn_wide.2 HAW.out)).mono ?_; rintro e w5 ⟨rfl, hb5⟩; have k5 := Sq.Kept.of_below (T := fun _ => True) hb5; have b5' := k5.boxed trivial HBV.out; have c5' := b5'.cell; have l5' := b5'.lt; have HROW5 := Lib.hid (Sq.row_kept HOWN.out k5 (fun _ _ => trivial)); have hs5 := k5.size) | (gi_at_builtin; refine wpListIn_append_own_at _ rfl _ _ 31 rfl w3.heap.size 3 i0 (.int .i64 0) 1 8 Try.underlying31 hi0 hz0 hz1 hz2 rfl (by decide) (.slice ao O1.length cp) O1.length (iN O1) rfl (HROW5.out.alloc _) ⟨w5.heap.size, 0, none⟩ 1 1 [_] rfl rfl (cell_one_new _ _ _) (by simp [Value.oneCell']) (by unfold maxLen; omega) (by omega) (by simp; omega) ?_; intro v' w6 hown6 hgrow _ hat6; obtain ⟨ao2, cap2, rfl, _⟩ := Sq.row_cases hown6; have HNE := Lib.hid (fun (e : some wx.heap.size = (Value.slice ao O1.length cp).ownBlock) => show False from by have := (HLO.out _ e.symm).1; omega); have b6 := (b5'.alloc (.cells #[.int .i64 (xi : Int)] 3)).kept hgrow (fun e => HNE.out e); have c6 := b6.cell; have g6 := b6.frozen; have l6 := b6.lt; have HOWN6 := Lib.hid hown6; have HAT6 := Lib.hid hat6; have HG6 := Lib.hid hgrow; clear hown6 hat6 hgrow))
        have hgb := fun g (hg : (Value.slice ao2 (O1.length + 1) cap2).ownBlock = some g) => Ob.row_lt HOWN6.out hg
        refine ⟨?_, ⟨.slice ao2 (O1.length + 1) cap2, ⟨?_, ?_⟩, b6.set _, hnv⟩, ?_, hnk⟩
        · exact (((k5.less fun _ _ _ => trivial).trans (Sq.Kept.alloc _ _ _)).trans (Sq.Kept.grown HG6.out (by
            rintro g hg (h | h)
            · exact HSR.out g hg h
            · have := (HTN.out g h).1; have := (HLO.out g hg).1; omega))).trans (Sq.Kept.setCell _ _ (by
            rintro (h | h)
            · exact hnv h
            · exact (HTN.out _ h).2 rfl))
        · rw [hO2, List.length_append, iN_snoc]
          exact Ob.row_other HOWN6.out (p := ⟨wx.heap.size, 0, none⟩) (fun e => by have := (hgb _ e).1; simp at this; omega) _
        · intro g hg hRg
          rcases HAT6.out with h | h
          · exact HSR.out g (h ▸ hg) hRg
          · rw [h] at hg
            have := (HBD.out g hRg).2
            simp at hg
            omega
        · exact (((HK.out.trans (k5.less fun _ _ _ => trivial)).trans (Sq.Kept.alloc _ _ _)).trans (Sq.Kept.grown HG6.out (fun g hg hlt => by have := (HLO.out g hg).1; omega))).trans (Sq.Kept.setCell _ _ (by simp))
    case done =>
      rintro D R ys X hD hRD rfl ⟨⟨sv, ⟨hown, hsR⟩, hbv, hnv⟩, hk, hnk⟩ hdf
      obtain ⟨ao, cp, rfl, _⟩ := Sq.row_cases hown
      have c5 := hbv.cell
      have HDF := Lib.hid hdf
      have HOWN := Lib.hid hown
      clear hown
      go_wp2
      refine Sq.leaves_marks [D] _ (by simp) (fun E hE => ?_) (fun W' hk' => ⟨.tuple #[.slice ao (opL H (wk H [3, 4, 5, 21])).length cp, .int .i64 0], ?_, ?_⟩)
      · obtain rfl : E = D := by simpa using hE
        exact HDF.out
      · simp [results, Try.results11, go_sem]
      · have h := Sq.row_kept HOWN.out hk' (fun g hg => show g ∉ [D] from by simp; rintro rfl; exact hsR g hg hRD)
        refine ⟨_, by rw [hop]; rfl, ?_, ?_⟩
        · rw [hop]
          show W'.ownsRow w.heap.size _ 1 _ (openN H H.length).length (iN (openN H H.length))
          rw [← HWK.out]
          rcases h with ⟨h0, h1 | ⟨g, cap', cur, h1, h2, h3⟩⟩
          · exact ⟨h0, .inl h1⟩
          · exact ⟨h0, .inr ⟨g, cap', cur, h1, by omega, h3⟩⟩
        · exact hB3.trans ((hk.trans (hk'.less (fun b hb _ h => by simp at h; omega))).below (fun b hb => by show b < wx.heap.size; omega) (by omega))
    case stop =>
      rintro D R c pre X hD hRD hsp h hdf
      exact h.elim
  · have hk := (check_bad h).1
    have HRD := Lib.hid (HBD.out k h)
    have hop : opn H = ([], 52) := by unfold opn; rw [if_pos (by rw [h]; simp)]
    unfold OpnOut
    rw [hop]
    unfold RdBad at HRD
    clear HF HBD h hE hAll hop
    have hki : (k : Int) < (H.length : Int) := by omega
    go_enter Try.func11, Try.ntmps11
    go_wp2_with (go_at_call 17; (with_reducible refine HRD.out.mono ?_); rintro e w1 ⟨a, cap, mb, rfl, hb1⟩; obtain ⟨wx, hwx⟩ : ∃ wx, w1.alloc (.cells #[.slice a k cap, .map (some mb)] 45) = wx := ⟨_, rfl⟩; have oX := Ob.Obj.new w1 45 [.slice a k cap, .map (some mb)]; rw [show w1.alloc (.cells ([.slice a k cap, .map (some mb)] : List Value).toArray 45) = wx from hwx] at oX; have hBx : Below w.heap.size w wx := (by rw [← hwx]; exact hb1.alloc hb1.size _); have x0 := oX.cell 0; have x1 := oX.cell 1; have hxl := oX.lt; simp at x0 x1)
    all_goals go_ret2
    all_goals exact ⟨_, rfl, World.ownsRow_nil _ _ _ _, hBx⟩

end Gr
end Go.Proofs.Ytdaafledkloegaa

/-
  The document's first example of chapter 15 (the law's list, shown), and the law's ints.
-/
namespace Go.Proofs.Ytdaafledkloegaa
open Go.RowKit
set_option linter.unusedSimpArgs false
set_option linter.unusedVariables false
namespace Gr
open Ev (Evt EvIn hasB validB command closing zero fields Evs AtE evC evV W64 ecs)

theorem evs_new {W : World} {g : Nat} {te : TypeId} {L : List Evt} (h : Ob.Obj W g te (ecs L)) : Evs W.heap.size W (.slice (some ⟨g, 0, none⟩) L.length L.length) L := by
  refine ⟨_, L.length, g, 0, rfl, fun _ => ⟨rfl, h.lt⟩, fun j hj k hk => ?_⟩
  rw [show 0 + j * 9 + k = j * 9 + k by omega, h.cell]
  have := Gn.flatten_get (sz := 9) (L.map evC) (fun i hi => by simp [evC]) j (by simpa using hj) k hk
  unfold ecs
  rw [this]
  simp
def lst : List Evt := [⟨1, 0, 1, 0, 0, 0, 0, 0, 0⟩, ⟨2, 0, 2, 1, 0, 0, 0, 0, 0⟩, ⟨3, 0, 3, 0, 0, 0, 0, 0, 0⟩, ⟨4, 0, 4, 9, 0, 0, 0, 0, 0⟩, ⟨5, 0, 22, 3, 0, 1, 0, 0, 0⟩, ⟨6, 0, 2, 5, 0, 0, 0, 0, 0⟩, ⟨7, 0, 15, 4, 0, 0, 0, 0, 0⟩]
def two : List Evt := [⟨1, 0, 1, 0, 0, 0, 0, 0, 0⟩, ⟨2, 0, 3, 0, 0, 0, 0, 0, 0⟩]
theorem lst_in : ∀ x ∈ lst, EvIn x := by
  intro x hx
  simp only [lst, List.mem_cons, List.not_mem_nil, or_false] at hx
  rcases hx with rfl | rfl | rfl | rfl | rfl | rfl | rfl
  all_goals exact ⟨⟨by decide, by decide⟩, ⟨by decide, by decide⟩, ⟨by decide, by decide⟩, ⟨by decide, by decide⟩, ⟨by decide, by decide⟩, ⟨by decide, by decide⟩, ⟨by decide, by decide⟩, ⟨by decide, by decide⟩, ⟨by decide, by decide⟩⟩
theorem two_in : ∀ x ∈ two, EvIn x := by
  intro x hx
  simp only [two, List.mem_cons, List.not_mem_nil, or_false] at hx
  rcases hx with rfl | rfl
  all_goals exact ⟨⟨by decide, by decide⟩, ⟨by decide, by decide⟩, ⟨by decide, by decide⟩, ⟨by decide, by decide⟩, ⟨by decide, by decide⟩, ⟨by decide, by decide⟩, ⟨by decide, by decide⟩, ⟨by decide, by decide⟩, ⟨by decide, by decide⟩⟩
theorem check_lst : check lst = (0, 0) := by decide +kernel
theorem open_lst : opn lst = ([3], 0) := by decide +kernel
theorem close_lst : close lst = (6, 0) := by decide +kernel
theorem check_two : check two = (52, 1) := by decide +kernel

set_option maxRecDepth 100000 in
set_option maxHeartbeats 4000000 in
theorem list_any (w : World) :
    Calls Try.prog 16 #[] w fun e w' => e = .returned (.slice (some ⟨w.heap.size, 0, none⟩) 7 7) ∧ Evs w'.heap.size w' (.slice (some ⟨w.heap.size, 0, none⟩) 7 7) lst ∧ Below w.heap.size w w' := by
  have o := Ob.Obj.new w 41 (ecs lst)
  have hb : Below w.heap.size w (w.alloc (.cells (ecs lst).toArray 41)) := (Below.refl _ _).alloc (Nat.le_refl _) _
  have hE := evs_new o
  obtain ⟨wx, hwx⟩ : ∃ wx, w.alloc (.cells #[.int .i64 1, .int .i64 0, .int .i64 1, .int .i64 0, .int .i64 0, .int .i64 0, .int .i64 0, .int .i64 0, .int .i64 0, .int .i64 2, .int .i64 0, .int .i64 2, .int .i64 1, .int .i64 0, .int .i64 0, .int .i64 0, .int .i64 0, .int .i64 0, .int .i64 3, .int .i64 0, .int .i64 3, .int .i64 0, .int .i64 0, .int .i64 0, .int .i64 0, .int .i64 0, .int .i64 0, .int .i64 4, .int .i64 0, .int .i64 4, .int .i64 9, .int .i64 0, .int .i64 0, .int .i64 0, .int .i64 0, .int .i64 0, .int .i64 5, .int .i64 0, .int .i64 22, .int .i64 3, .int .i64 0, .int .i64 1, .int .i64 0, .int .i64 0, .int .i64 0, .int .i64 6, .int .i64 0, .int .i64 2, .int .i64 5, .int .i64 0, .int .i64 0, .int .i64 0, .int .i64 0, .int .i64 0, .int .i64 7, .int .i64 0, .int .i64 15, .int .i64 4, .int .i64 0, .int .i64 0, .int .i64 0, .int .i64 0, .int .i64 0] 41) = wx := ⟨_, rfl⟩
  rw [show w.alloc (.cells (ecs lst).toArray 41) = wx from hwx] at hb hE
  have HH := Lib.hid (And.intro hE hb)
  clear o hE hb
  go_enter Try.func16, Try.ntmps16
  go_wp2_with fail
  go_ret
  exact ⟨rfl, HH.out⟩

set_option maxRecDepth 100000 in
set_option maxHeartbeats 2000000 in
theorem ints_any {B1 B2 : Nat} {v1 v2 : Value} {l : List Int} (w : World) (h1 : Fi.Ints B1 w v1 l) (h2 : Fi.Ints B2 w v2 l) (hl : l.length ≤ 1073741824) :
    Calls Try.prog 15 #[v1, v2] w fun e w' => e = .returned (.bool true) ∧ ∃ m, w' = w.drewN m := by
  obtain ⟨a1, c1, b1, o1, rfl, g1, k1⟩ := h1
  obtain ⟨a2, c2, b2, o2, rfl, g2, k2⟩ := h2
  go_enter Try.func15, Try.ntmps15
  go_wp2_with fail
  go_loopw [5] (fun i wr => ∃ k m : Nat, k ≤ l.length ∧ i = .int .i64 k ∧ wr = w.drewN m) (fun i _ => l.length - (intOf i).toNat)
  case atStart => exact ⟨0, 0, Nat.zero_le _, rfl, rfl⟩
  case round =>
    obtain ⟨k, m, hk, rfl, rfl⟩ := hrel
    by_cases hlt : k < l.length
    · obtain ⟨rfl, _⟩ := g1 (by omega)
      obtain ⟨rfl, _⟩ := g2 (by omega)
      have e1 := k1 k hlt
      have e2 := k2 k hlt
      have hi1 : (0 : Int) ≤ (k : Int) ∧ (k : Int) < (l.length : Int) := by omega
      clear k1 k2
      generalize l[k] = x at e1 e2
      go_wp2_with fail
      go_quiet (fail)
      go_wp2_with fail
      go_roundw
      case rel => exact ⟨k + 1, m + nq, by omega, by go_num, rfl⟩
      case measure => simp [intOf]; omega
    · obtain rfl : k = l.length := by omega
      go_wp2_with fail
      go_ret
      exact ⟨rfl, m, rfl⟩

set_option maxRecDepth 100000 in
set_option maxHeartbeats 8000000 in
theorem shown_any (hC : CheckOk) (hO : OpenOk) (hK : CloseOk) (w : World) :
    Calls Try.prog 7 #[] w fun e w' => e = .returned (.bool true) ∧ Below w.heap.size w w' := by
  have HL := Lib.hid list_any
  have HC1 := Lib.hid (fun a n W h => hC (.slice a n n) lst W (room_self _ _) h lst_in (by decide))
  have HO1 := Lib.hid (fun a n W h => hO (.slice a n n) lst W (room_self _ _) h lst_in (by decide))
  have HK1 := Lib.hid (fun a n W h => hK (.slice a n n) lst W (room_self _ _) h lst_in (by decide))
  have HC2 := Lib.hid (fun a n W h => hC (.slice a n n) two W (room_self _ _) h two_in (by decide))
  rw [check_lst] at HC1
  rw [check_two] at HC2
  unfold OpnOut at HO1
  rw [open_lst] at HO1
  rw [close_lst] at HK1
  clear hC hO hK
  go_enter Try.func7, Try.ntmps7
  have t1 : True := trivial
  have s1 : True := trivial
  go_wp2_with (first
    | (go_at_call 16; clear t1; (with_reducible refine (HL.out _).mono ?_); rintro e w1 ⟨rfl, hE1, hb1⟩)
    | (go_at_call 8; clear s1; (with_reducible refine (HC1.out _ _ _ hE1).mono ?_); rintro e w2 ⟨rfl, hb2⟩; have hB2 := hb1.trans (hb2.mono hb1.size); have t2 : True := trivial)
    | (go_at_call 16; clear t2; (with_reducible refine (HL.out _).mono ?_); rintro e w3 ⟨rfl, hE3, hb3⟩; have hB3 := hB2.trans (hb3.mono hB2.size))
    | (go_at_call 11; go_loud ((with_reducible refine (HO1.out _ _ _ hE3).mono ?_); rintro e w4 ⟨v4, rfl, hown4, hb4⟩; simp only [List.length_cons, List.length_nil, Nat.zero_add, iN, List.map_cons, List.map_nil] at hown4; have hB4 := hB3.trans (hb4.mono hB3.size); obtain ⟨ao, cap, rfl, hg⟩ := Sq.row_cases hown4; obtain ⟨g4, rfl, _, hl4⟩ := hg (by decide); have hrc := hown4.cellAt 0 (by decide); simp at hrc; have t3 : True := trivial))
    | (go_at_call 16; clear t3; (with_reducible refine (HL.out _).mono ?_); rintro e w5 ⟨rfl, hE5, hb5⟩; have hB5 := hB4.trans (hb5.mono hB4.size))
    | (go_at_call 13; (with_reducible refine (HK1.out _ _ _ hE5).mono ?_); rintro e w6 ⟨rfl, hb6⟩; have hB6 := hB5.trans (hb6.mono hB5.size); have o6 := Ob.Obj.new w6 41 (ecs two); have hE6 := Lib.hid (evs_new o6); have hB7 := hB6.alloc hB6.size (.cells (ecs two).toArray 41); have hb7 := (Below.refl _ _ : Below w6.heap.size w6 w6).alloc (Nat.le_refl _) (.cells (ecs two).toArray 41); have t4 : True := trivial)
    | (go_at_call 8; clear t4; go_loud (refine (HC2.out _ _ _ hE6.out).mono ?_; rintro e w8 ⟨rfl, hb8⟩; have hB8 := hB7.trans (hb8.mono hB7.size); have q5 := hb5.size; have q6 := hb6.size; have q7 := hb7.size; have hc8 := (hb8.cell (p := ⟨g4, 0, none⟩) (by show g4 < _; omega)).trans ((hb7.cell (p := ⟨g4, 0, none⟩) (by show g4 < _; omega)).trans ((hb6.cell (p := ⟨g4, 0, none⟩) (by show g4 < _; omega)).trans ((hb5.cell (p := ⟨g4, 0, none⟩) (by show g4 < _; omega)).trans hrc))))))
  go_ret
  exact ⟨rfl, hB8⟩

end Gr
end Go.Proofs.Ytdaafledkloegaa

/-
  The laws of chapter 15, over what the program owes: GrammarOpens.
-/
namespace Go.Proofs.Ytdaafledkloegaa
open Go.RowKit
set_option linter.unusedSimpArgs false
set_option linter.unusedVariables false
namespace Gr
open Ev (Evt EvIn EvsIn hasB validB command closing zero fields Evs AtE evC evV W64 ecs)

theorem ints_of_own {W : World} {B : Nat} {te : TypeId} {v : Value} {l : List Nat} (h : W.ownsRow B te 1 v l.length (iN l)) : Fi.Ints W.heap.size W v (l.map fun (x : Nat) => (x : Int)) := by
  obtain ⟨a, cap, b, rfl, _, _, h3⟩ := Gn.row_at h
  refine ⟨a, cap, b, 0, by simp, fun h => ⟨(h3 (by simpa using h)).1, (h3 (by simpa using h)).2.2.1⟩, fun j hj => ?_⟩
  rw [List.length_map] at hj
  obtain ⟨_, _, _, hc⟩ := h3 (by omega)
  rw [show 0 + j = j by omega, hc j (by omega)]
  simp [iN, hj]

theorem belowG {B : Nat} {w W : World} (h : Below B w W) (m : Nat) : Below B w (W.drewN m) := ⟨h.os, h.tape, h.output, h.size, h.block⟩

set_option maxRecDepth 100000 in
set_option maxHeartbeats 8000000 in
theorem grammarOpens_walk (hC : CheckOk) (hO : OpenOk) (hK : CloseOk) (hv : Value) (H : List Evt) (w : World) (hr : Room hv) (hE : EvsIn w hv H) :
    Calls Try.prog 4 #[hv] w fun e w' => e = .returned (.bool true) ∧ Below w.heap.size w w' := by
  obtain ⟨hEv, hLI, hLl⟩ := hE
  have HS := Lib.hid (shown_any hC hO hK w)
  have HO := Lib.hid (fun W (hb : Below w.heap.size w W) => hO hv H W hr (hEv.grow hb hb.size) hLI hLl)
  have HR := Lib.hid (fun W (hb : Below w.heap.size w W) => openR_any hv H W (hEv.grow hb hb.size) hLl)
  have HK := Lib.hid (fun W (hb : Below w.heap.size w W) => hK hv H W hr (hEv.grow hb hb.size) hLI hLl)
  have HQ := Lib.hid (fun W (hb : Below w.heap.size w W) => closeR_any hv H W (hEv.grow hb hb.size) hLl)
  unfold OpnOut at HO HR
  have hPl : (opn H).1.length ≤ 1048576 := by
    unfold opn
    by_cases h : (check H).1 ≠ 0
    · rw [if_pos h]; simp
    · rw [if_neg h]; exact Nat.le_trans (openN_len H _) hLl
  have HI := Lib.hid (fun (B1 B2 : Nat) (v1 v2 : Value) (W : World) (h1 : Fi.Ints B1 W v1 ((opn H).1.map fun (x : Nat) => (x : Int))) (h2 : Fi.Ints B2 W v2 ((opn H).1.map fun (x : Nat) => (x : Int))) => ints_any W h1 h2 (by rw [List.length_map]; omega))
  obtain ⟨la, lc, lb, lo, rfl, _⟩ := hEv
  clear hC hO hK hLI hr
  generalize opn H = op at *
  generalize close H = cl at *
  obtain ⟨P, oe⟩ := op
  obtain ⟨cc, ce⟩ := cl
  simp only at *
  go_enter Try.func4, Try.ntmps4
  go_wp2_with (first
    | (go_at_call 7; (with_reducible refine HS.out.mono ?_); rintro e w1 ⟨rfl, hb1⟩)
    | (go_at_call 11; (with_reducible refine (HO.out _ hb1).mono ?_); rintro e w2 ⟨va, rfl, hown2, hb2⟩; have hB2 := hb1.trans (hb2.mono hb1.size); have I2 := Lib.hid (ints_of_own hown2); obtain ⟨ao, cap, rfl, _⟩ := Sq.row_cases hown2; clear hown2)
    | (go_at_call 12; (with_reducible refine (HR.out _ hB2).mono ?_); rintro e w3 ⟨vb, rfl, hown3, hb3⟩; have hB3 := hB2.trans (hb3.mono hB2.size); have I3 := Lib.hid (I2.out.below hb3); have J3 := Lib.hid (ints_of_own hown3); obtain ⟨bo, bcap, rfl, _⟩ := Sq.row_cases hown3; clear hown3 I2)
    | (go_at_call 13; (with_reducible refine (HK.out _ hB3).mono ?_); rintro e w4 ⟨rfl, hb4⟩; have hB4 := hB3.trans (hb4.mono hB3.size); have I4 := Lib.hid (I3.out.below (hb4.mono hb3.size)); have J4 := Lib.hid (J3.out.below hb4); clear I3 J3)
    | (go_at_call 14; (with_reducible refine (HQ.out _ hB4).mono ?_); rintro e w5 ⟨rfl, hb5⟩; have hB5 := hB4.trans (hb5.mono hB4.size); have I5 := Lib.hid (I4.out.below (hb5.mono (Nat.le_trans hb3.size hb4.size))); have J5 := Lib.hid (J4.out.below (hb5.mono hb4.size)); clear I4 J4)
    | (go_at_call 15; go_loud ((with_reducible refine (HI.out _ _ _ _ _ I5.out J5.out).mono ?_); rintro e w6 ⟨rfl, m6, rfl⟩)))
  go_ret
  exact ⟨rfl, belowG hB5 m6⟩

end Gr
end Go.Proofs.Ytdaafledkloegaa

/-
  The law GrammarBegins, over what the program owes.
-/
namespace Go.Proofs.Ytdaafledkloegaa
open Go.RowKit
set_option linter.unusedSimpArgs false
set_option linter.unusedVariables false
namespace Gr
open Ev (Evt EvIn EvsIn hasB validB command closing zero fields Evs AtE evC evV W64 ecs)

/-- how far a list is a history -/
def endN (H : List Evt) : Nat := if (check H).1 = 0 then H.length else (check H).2
theorem endN_le (H : List Evt) : endN H ≤ H.length := by
  unfold endN
  rcases check_cases H with h | ⟨n, h⟩
  · rw [h]; simp
  · rw [h, if_neg (by simp)]; exact Nat.le_of_lt (check_bad h).1
theorem check_upto (H : List Evt) (k : Nat) (hk : k ≤ H.length) : check (H.take k) = if k ≤ endN H then (0, 0) else (52, endN H) := by
  rw [check_take H k hk]
  unfold endN
  rcases check_cases H with h | ⟨n, h⟩
  · rw [h]; simp only [if_pos]; rw [if_pos hk]
  · rw [h]; rfl
theorem close_upto (H : List Evt) (k : Nat) (hk : k ≤ endN H) : close (H.take k) = (-1, 0) ∨ (close (H.take k) = ((k : Int) - 1, 0) ∧ 0 < k ∧ k = endN H) := by
  have hl := endN_le H
  have hc := check_upto H k (by omega)
  rw [if_pos hk] at hc
  have hlen : (H.take k).length = k := by rw [List.length_take]; omega
  unfold close
  rw [hc, if_neg (by decide), hlen]
  by_cases h : 0 < k ∧ closing (ev (H.take k) (k - 1)).kind = true
  · refine .inr ⟨by rw [if_pos h], h.1, ?_⟩
    by_cases e : k = endN H
    · exact e
    · have hm : mayB H k = true := by
        unfold endN at hk e
        rcases check_cases H with h2 | ⟨n, h2⟩
        · rw [h2] at hk e
          exact check_ok.1 (show (check H).1 = 0 by rw [h2]) k (by simp at hk e; omega)
        · rw [h2, if_neg (by simp)] at hk e
          exact (check_bad h2).2.2 k (by simp at hk e; omega)
      have := closed_last h.1 (by omega) hm
      rw [ev_take (by omega), this] at h
      cases h.2
  · exact .inl (by rw [if_neg h])
theorem evs_take {B : Nat} {W : World} {a : Option Addr} {cap : Nat} {H : List Evt} (h : Evs B W (.slice a H.length cap) H) (k : Nat) (hk : k ≤ H.length) (c : Nat) : Evs B W (.slice a k c) (H.take k) := by
  obtain ⟨a', cap', b, off, h1, h2, h3⟩ := h
  injection h1 with e1 e2 e3
  subst e1
  have hlen : (H.take k).length = k := by rw [List.length_take]; omega
  refine ⟨_, c, b, off, by rw [hlen], fun h => h2 (by omega), fun j hj => ?_⟩
  rw [hlen] at hj
  rw [List.getElem_take]
  exact h3 j (by omega)

set_option maxRecDepth 100000 in
set_option maxHeartbeats 16000000 in
theorem grammarBegins_walk (hC : CheckOk) (hO : OpenOk) (hK : CloseOk) (a : Option Addr) (cap : Nat) (H : List Evt) (w : World) (hE : EvsIn w (.slice a H.length cap) H) (hcap : H.length ≤ cap) :
    Calls Try.prog 5 #[.slice a H.length cap] w fun e w' => e = .returned (.bool true) ∧ Below w.heap.size w w' := by
  obtain ⟨hEv, hLI, hLl⟩ := hE
  have HS := Lib.hid (shown_any hC hO hK w)
  have HP := Lib.hid (fun W (hb : Below w.heap.size w W) => hC _ H W ⟨_, _, _, rfl, hcap⟩ (hEv.grow hb hb.size) hLI hLl)
  have HPT := Lib.hid (fun k W (hk : k ≤ H.length) (hb : Below w.heap.size w W) => hC (.slice a k cap) (H.take k) W ⟨_, _, _, rfl, Nat.le_trans hk hcap⟩ ((evs_take hEv k hk cap).grow hb hb.size) (fun x hx => hLI x (List.mem_of_mem_take hx)) (by rw [List.length_take]; omega))
  have HQT := Lib.hid (fun k W (hk : k ≤ H.length) (hb : Below w.heap.size w W) => hK (.slice a k cap) (H.take k) W ⟨_, _, _, rfl, Nat.le_trans hk hcap⟩ ((evs_take hEv k hk cap).grow hb hb.size) (fun x hx => hLI x (List.mem_of_mem_take hx)) (by rw [List.length_take]; omega))
  have HCU := Lib.hid (fun k hk => check_upto H k hk)
  have HLU := Lib.hid (fun k hk => close_upto H k hk)
  have hen := endN_le H
  have hed : endN H = if (check H).1 = 0 then H.length else (check H).2 := rfl
  generalize endN H = N at *
  clear hC hO hK hLI hEv
  have hcap2 : (H.length : Int) ≤ (cap : Int) := by omega
  rcases check_cases H with h | ⟨kk, h⟩
  · rw [h] at HP hed
    obtain rfl : N = H.length := hed
    clear hen h
    have hn0 : ¬ ((H.length : Int) < 0) := by omega
    go_enter Try.func5, Try.ntmps5
    go_wp2_with (first
      | (go_at_call 7; (with_reducible refine HS.out.mono ?_); rintro e w1 ⟨rfl, hb1⟩)
      | (go_at_call 8; (with_reducible refine (HP.out _ hb1).mono ?_); rintro e w2 ⟨rfl, hb2⟩; have hB2 := hb1.trans (hb2.mono hb1.size)))
    have hdk : decide ((H.length : Int) < 0) = false := decide_eq_false (by omega)
    simp only [hdk]
    clear hdk
    go_loopw [7] (fun i wr => ∃ k : Nat, k ≤ H.length + 1 ∧ i = .int .i64 (k : Int) ∧ Below w.heap.size w wr) (fun i _ => H.length + 1 - (intOf i).toNat)
    case atStart => exact ⟨0, Nat.zero_le _, rfl, hB2⟩
    case round =>
      obtain ⟨k, hk, rfl, hB⟩ := hrel
      by_cases hlt : k ≤ H.length
      · have hi1 : (0 : Int) ≤ (k : Int) ∧ (k : Int) ≤ (H.length : Int) ∧ (k : Int) ≤ (cap : Int) := by omega
        have hwk : 0 < k → IntKind.i64.wrap ((k : Int) - 1) = (k : Int) - 1 := fun h => by rw [IntKind.wrap_i64]; omega
        have hcu := HCU.out k hlt
        have HP2 := Lib.hid (fun W hb => HPT.out k W hlt hb)
        have HQ2 := Lib.hid (fun W hb => HQT.out k W hlt hb)
        by_cases hkn : k ≤ H.length
        · have hkz : (k : Int) ≤ (H.length : Int) := by omega
          rw [if_pos hkn] at hcu
          rw [hcu] at HP2
          have hlu := HLU.out k hkn
          clear hcu HP HPT HQT HCU HLU HS
          rcases hlu with hlu | ⟨hlu, hk0, hke⟩
          · rw [hlu] at HQ2
            clear hlu
            go_wp2_with (first
              | (go_at_call 8; (with_reducible refine (HP2.out _ hB).mono ?_); rintro e w3 ⟨rfl, hb3⟩; have hB3 := hB.trans (hb3.mono hB.size))
              | (go_at_call 13; (with_reducible refine (HQ2.out _ hB3).mono ?_); rintro e w4 ⟨rfl, hb4⟩; have hB4 := hB3.trans (hb4.mono hB3.size)))
            go_roundw
            case rel => exact ⟨k + 1, by omega, by go_num, hB4⟩
            case measure => simp [intOf]; omega
          · rw [hlu] at HQ2
            have hwk2 := hwk hk0
            have hk1 : (0 : Int) ≤ (k : Int) - 1 ∧ ¬ ((k : Int) < (H.length : Int)) := by omega
            clear hlu hwk hke
            go_wp2_with (first
              | (go_at_call 8; (with_reducible refine (HP2.out _ hB).mono ?_); rintro e w3 ⟨rfl, hb3⟩; have hB3 := hB.trans (hb3.mono hB.size))
              | (go_at_call 13; (with_reducible refine (HQ2.out _ hB3).mono ?_); rintro e w4 ⟨rfl, hb4⟩; have hB4 := hB3.trans (hb4.mono hB3.size)))
            go_roundw
            case rel => exact ⟨k + 1, by omega, by go_num, hB4⟩
            case measure => simp [intOf]; omega
        · exact absurd hlt hkn
      · obtain rfl : k = H.length + 1 := by omega
        have hi1 : ¬ (((H.length + 1 : Nat) : Int) ≤ (H.length : Int)) := by omega
        have hi2 : ¬ ((H.length : Int) + 1 ≤ (H.length : Int)) := by omega
        go_wp2_with fail
        go_ret
        exact ⟨rfl, hB⟩
  · rw [h] at HP hed
    have hed2 : kk = N := by simpa using hed.symm
    clear hed
    subst hed2
    clear h
    have hn0 : ¬ ((kk : Int) < 0) := by omega
    have hn1 : decide (H.length < kk) = false := by simp; omega
    have hn2 : decide ((H.length : Int) < (kk : Int)) = false := by simp; omega
    go_enter Try.func5, Try.ntmps5
    go_wp2_with (first
      | (go_at_call 7; (with_reducible refine HS.out.mono ?_); rintro e w1 ⟨rfl, hb1⟩)
      | (go_at_call 8; (with_reducible refine (HP.out _ hb1).mono ?_); rintro e w2 ⟨rfl, hb2⟩; have hB2 := hb1.trans (hb2.mono hb1.size)))
    have hdk : decide ((kk : Int) < 0) = false := decide_eq_false (by omega)
    simp only [hdk]
    clear hdk
    go_loopw [7] (fun i wr => ∃ k : Nat, k ≤ H.length + 1 ∧ i = .int .i64 (k : Int) ∧ Below w.heap.size w wr) (fun i _ => H.length + 1 - (intOf i).toNat)
    case atStart => exact ⟨0, Nat.zero_le _, rfl, hB2⟩
    case round =>
      obtain ⟨k, hk, rfl, hB⟩ := hrel
      by_cases hlt : k ≤ H.length
      · have hi1 : (0 : Int) ≤ (k : Int) ∧ (k : Int) ≤ (H.length : Int) ∧ (k : Int) ≤ (cap : Int) := by omega
        have hwk : 0 < k → IntKind.i64.wrap ((k : Int) - 1) = (k : Int) - 1 := fun h => by rw [IntKind.wrap_i64]; omega
        have hcu := HCU.out k hlt
        have HP2 := Lib.hid (fun W hb => HPT.out k W hlt hb)
        have HQ2 := Lib.hid (fun W hb => HQT.out k W hlt hb)
        by_cases hkn : k ≤ kk
        · have hkz : (k : Int) ≤ (kk : Int) := by omega
          rw [if_pos hkn] at hcu
          rw [hcu] at HP2
          have hlu := HLU.out k hkn
          clear hcu HP HPT HQT HCU HLU HS
          rcases hlu with hlu | ⟨hlu, hk0, hke⟩
          · rw [hlu] at HQ2
            clear hlu
            go_wp2_with (first
              | (go_at_call 8; (with_reducible refine (HP2.out _ hB).mono ?_); rintro e w3 ⟨rfl, hb3⟩; have hB3 := hB.trans (hb3.mono hB.size))
              | (go_at_call 13; (with_reducible refine (HQ2.out _ hB3).mono ?_); rintro e w4 ⟨rfl, hb4⟩; have hB4 := hB3.trans (hb4.mono hB3.size)))
            go_roundw
            case rel => exact ⟨k + 1, by omega, by go_num, hB4⟩
            case measure => simp [intOf]; omega
          · rw [hlu] at HQ2
            have hwk2 := hwk hk0
            have hk1 : (0 : Int) ≤ (k : Int) - 1 ∧ ¬ ((k : Int) < (kk : Int)) := by omega
            clear hlu hwk hke
            go_wp2_with (first
              | (go_at_call 8; (with_reducible refine (HP2.out _ hB).mono ?_); rintro e w3 ⟨rfl, hb3⟩; have hB3 := hB.trans (hb3.mono hB.size))
              | (go_at_call 13; (with_reducible refine (HQ2.out _ hB3).mono ?_); rintro e w4 ⟨rfl, hb4⟩; have hB4 := hB3.trans (hb4.mono hB3.size)))
            go_roundw
            case rel => exact ⟨k + 1, by omega, by go_num, hB4⟩
            case measure => simp [intOf]; omega
        · have hkz : ¬ (k : Int) ≤ (kk : Int) := by omega
          have hky : (kk : Int) < (k : Int) := by omega
          rw [if_neg hkn] at hcu
          rw [hcu] at HP2
          clear hcu HP HPT HQT HCU HLU HS
          generalize close (H.take k) = cl at *
          obtain ⟨cc, ce⟩ := cl
          simp only at HQ2
          go_wp2_with (first
            | (go_at_call 8; (with_reducible refine (HP2.out _ hB).mono ?_); rintro e w3 ⟨rfl, hb3⟩; have hB3 := hB.trans (hb3.mono hB.size))
            | (go_at_call 13; (with_reducible refine (HQ2.out _ hB3).mono ?_); rintro e w4 ⟨rfl, hb4⟩; have hB4 := hB3.trans (hb4.mono hB3.size)))
          go_roundw
          case rel => exact ⟨k + 1, by omega, by go_num, hB4⟩
          case measure => simp [intOf]; omega
      · obtain rfl : k = H.length + 1 := by omega
        have hi1 : ¬ (((H.length + 1 : Nat) : Int) ≤ (H.length : Int)) := by omega
        have hi2 : ¬ ((H.length : Int) + 1 ≤ (H.length : Int)) := by omega
        go_wp2_with fail
        go_ret
        exact ⟨rfl, hB⟩

end Gr
end Go.Proofs.Ytdaafledkloegaa

/-
  The builtin copy of elements of several cells, onto a row of one's own.
-/
namespace Go.Proofs.Ytdaafledkloegaa
open Go.RowKit
namespace Cw
variable {P : Program}
theorem run_copy_wide (w : World) (dT sT ty elem : TypeId) (g n dCap : Nat) (a : Addr) (sCap sz : Nat) (cur : Array Value) (t : TypeId) (cs : List Value)
    (hu : P.underlying dT = some (.slice elem)) (hs : (P.info? elem).map (·.size) = some sz)
    (hg : w.heap[g]? = some (.cells cur t (0, 0))) (hn : cs.length = n * sz)
    (hsrc : ∀ j v, cs[j]? = some v → w.cell? (a.add j) = some v) (hfit : cs.length ≤ cur.size) (h1 : ∀ v ∈ cs, v.oneCell' = true) :
    (Builtin.copy_ #[dT, sT] ty #[.slice (some ⟨g, 0, none⟩) n dCap, .slice (some a) n sCap]).run P w =
      .ok (goInt n) (w.setRow g (cs ++ cur.toList.drop cs.length).toArray) := by
  have hl := run_loadCells_list (P := P) w a cs hsrc
  have hst := run_storeCells_at P g 0 t cs 0 cur w hg (by simpa using hfit) h1
  cases hq : P.info? elem with
  | none => simp [hq] at hs
  | some i =>
    have hi : i.size = sz := by simpa [hq] using hs
    simp [Builtin.copy_, run_underlying hu, Builtin.lenOf, Builtin.firstCells, sizeOf, typeInfo, hq, hi, ← hn, hl, hst]
theorem run_copy_zero (w : World) (dT sT ty elem : TypeId) (d a : Option Addr) (dCap sCap : Nat) (sz : Nat) (hu : P.underlying dT = some (.slice elem)) (hs : (P.info? elem).map (·.size) = some sz) :
    (Builtin.copy_ #[dT, sT] ty #[.slice d 0 dCap, .slice a 0 sCap]).run P w = .ok (goInt 0) w := by
  cases hq : P.info? elem with
  | none => simp [hq] at hs
  | some i =>
    have hl : ∀ (x : Addr), (loadCells x 0).run P w = .ok #[] w := fun x => by simpa using run_loadCells_list (P := P) w x [] (by simp)
    cases d <;> cases a <;> simp [Builtin.copy_, run_underlying hu, Builtin.lenOf, Builtin.firstCells, sizeOf, typeInfo, hq, storeCells, hl]
/-- a whole list of n elements onto a row of as many -/
theorem wpList_copy_wide {w : World} {ops : Array Oper} {rest : List Oper} {o : Oper} {a : Act} {Q : Exit → Act → World → Prop} (hgd : o.guard = none) (d s : Operand) (dT sT : TypeId)
    (ho : o.op = .call { callee := .builtin .copy, args := #[d, s], argTypes := #[dT, sT] }) (elem : TypeId) (sz : Nat) (hu : P.underlying dT = some (.slice elem)) (hsz : (P.info? elem).map (·.size) = some sz)
    (sp : Option Addr) (n dCap sCap : Nat) (g : Nat) (hd : a.eval d = .slice (some ⟨g, 0, none⟩) n dCap) (hs : a.eval s = .slice sp n sCap)
    (cur : List Value) (t : TypeId) (hg : w.heap[g]? = some (.cells cur.toArray t (0, 0))) (cs : List Value) (hn : cs.length = n * sz) (hcur : cur.length = n * sz)
    (hpos : 0 < n → ∃ ad, sp = some ad ∧ ∀ j v, cs[j]? = some v → w.cell? (ad.add j) = some v) (h1 : ∀ v ∈ cs, v.oneCell' = true) (B : Nat) (w0 : World) (hb : Below B w0 w) (hBg : B ≤ g)
    (h : ∀ w', Hid (w'.heap[g]? = some (.cells cs.toArray t (0, 0))) → Below B w0 w' → wpList P ops Q rest (a.put o.dst (goInt n)) w') :
    wpList P ops Q (o :: rest) a w := by
  by_cases h0 : n = 0
  · subst h0
    rw [Nat.zero_mul] at hn hcur
    obtain rfl := List.eq_nil_of_length_eq_zero hn
    obtain rfl := List.eq_nil_of_length_eq_zero hcur
    have hrun := run_copy_zero (P := P) w dT sT o.type elem (some ⟨g, 0, none⟩) sp dCap sCap sz hu hsz
    refine wpList_plain hgd fun K hK => ?_
    unfold Oper.wp
    simp [execOp, ho, resolve, invoke, builtin, hd, hs, hrun, Result.andThen]
    exact hK _ _ (h w hg hb)
  · obtain ⟨ad, rfl, hsrc⟩ := hpos (by omega)
    have hrun := run_copy_wide (P := P) w dT sT o.type elem g n dCap ad sCap sz cur.toArray t cs hu hsz hg hn hsrc (by simp; omega) h1
    have hdrop : cur.drop cs.length = [] := List.drop_eq_nil_of_le (by omega)
    refine wpList_plain hgd fun K hK => ?_
    unfold Oper.wp
    simp [execOp, ho, resolve, invoke, builtin, hd, hs, hrun, Result.andThen, hdrop]
    exact hK _ _ (h _ (show _ = _ from setRow_heap w g _ _ t _ hg) (below_setRow hb hBg _))
end Cw
end Go.Proofs.Ytdaafledkloegaa

/-
  The law GrammarChecks, over what the program owes.
-/
namespace Go.Proofs.Ytdaafledkloegaa
open Go.RowKit
set_option linter.unusedSimpArgs false
set_option linter.unusedVariables false
namespace Gr
open Ev (Evt EvIn EvsIn hasB validB command closing zero fields Evs AtE evC evV W64 ecs)

theorem row_cells9 {W : World} {B g n cap sz : Nat} {e : TypeId} {xs : List Value} (h : W.ownsRow B e sz (.slice (some ⟨g, 0, none⟩) n cap) n xs) : ∃ cur : List Value, W.heap[g]? = some (.cells cur.toArray e (0, 0)) ∧ cur.length = cap * sz := by
  rcases h.2 with ⟨h1, _⟩ | ⟨g', cap', cur, h1, h2, h3, h4, h5, h6, h7⟩
  · cases h1
  · injection h1 with e1 e2 e3
    injection e1 with e1
    injection e1 with e1 _ _
    subst e1; subst e3
    exact ⟨cur.toList, by simpa using h3, by simpa using h6⟩
theorem ecs_len (L : List Evt) : (ecs L).length = L.length * 9 := by
  induction L with
  | nil => rfl
  | cons x r ih => rw [show ecs (x :: r) = evC x ++ ecs r from rfl, List.length_append, ih]; simp [evC]; omega
theorem ecs_get (L : List Evt) (j : Nat) (hj : j < L.length) (k : Nat) (hk : k < 9) : (ecs L)[j * 9 + k]? = (evC L[j])[k]? := by
  have := Gn.flatten_get (sz := 9) (L.map evC) (fun i hi => by simp [evC]) j (by simpa using hj) k hk
  unfold ecs
  rw [this]
  simp
theorem ecs_one (L : List Evt) : ∀ v ∈ ecs L, v.oneCell' = true := by
  intro v hv
  unfold ecs at hv
  simp only [List.mem_flatten, List.mem_map] at hv
  obtain ⟨cs, ⟨x, _, rfl⟩, hv⟩ := hv
  simp only [evC, List.mem_cons, List.not_mem_nil, or_false] at hv
  rcases hv with rfl | rfl | rfl | rfl | rfl | rfl | rfl | rfl | rfl
  all_goals simp [Value.oneCell']
theorem evs_src {B : Nat} {W : World} {a : Option Addr} {cap : Nat} {L : List Evt} (h : Evs B W (.slice a L.length cap) L) : 0 < L.length → ∃ ad, a = some ad ∧ ∀ j v, (ecs L)[j]? = some v → W.cell? (ad.add j) = some v := by
  intro h0
  obtain ⟨a', cap', b, off, h1, h2, h3⟩ := h
  injection h1 with e1 e2 e3
  subst e1
  refine ⟨⟨b, off, none⟩, (h2 h0).1, fun j v hj => ?_⟩
  have hlt : j < L.length * 9 := by
    have := (List.getElem?_eq_some_iff.1 hj).1
    rwa [ecs_len] at this
  have hq : j / 9 < L.length := by omega
  have hadd : (⟨b, off, none⟩ : Addr).add j = ⟨b, off + j, none⟩ := by unfold Addr.add; split <;> simp_all
  rw [hadd]
  have hg := ecs_get L (j / 9) hq (j % 9) (Nat.mod_lt _ (by omega))
  rw [show j / 9 * 9 + j % 9 = j by omega, hj] at hg
  have := h3 (j / 9) hq (j % 9) (Nat.mod_lt _ (by omega))
  rw [show off + j / 9 * 9 + j % 9 = off + j by omega] at this
  rw [this, ← hg]
theorem evs_of_cells {W : World} {g : Nat} {t : TypeId} {fz : Nat × Nat} {L : List Evt} (h : W.heap[g]? = some (.cells (ecs L).toArray t fz)) : Evs W.heap.size W (.slice (some ⟨g, 0, none⟩) L.length L.length) L := by
  refine ⟨_, L.length, g, 0, rfl, fun _ => ⟨rfl, (Array.getElem?_eq_some_iff.1 h).1⟩, fun j hj k hk => ?_⟩
  have key : ∀ k, W.cell? ⟨g, k, none⟩ = (ecs L)[k]? := fun k => by simp [World.cell?, h]
  rw [show 0 + j * 9 + k = j * 9 + k by omega, key]
  exact ecs_get L j hj k hk

set_option maxRecDepth 100000 in
set_option maxHeartbeats 8000000 in
theorem grammarChecks_walk (hC : CheckOk) (hO : OpenOk) (hK : CloseOk) (hv : Value) (H : List Evt) (w : World) (hE : EvsIn w hv H) :
    Calls Try.prog 3 #[hv] w fun e w' => e = .returned (.bool true) ∧ Below w.heap.size w w' := by
  obtain ⟨i0, hi, hz0, hz1, hz2⟩ := info_parts info_Event
  obtain ⟨hEv, hLI, hLl⟩ := hE
  have HS := Lib.hid (shown_any hC hO hK w)
  have HP := Lib.hid (fun a W (h : Evs W.heap.size W (.slice a H.length H.length) H) => hC (.slice a H.length H.length) H W (room_self _ _) h hLI hLl)
  have HR := Lib.hid (fun W (hb : Below w.heap.size w W) => checkR_any hv H W (hEv.grow hb hb.size) hLl)
  have HSM := Lib.hid (fun (B1 B2 : Nat) (v1 v2 : Value) (W : World) (h1 : Evs B1 W v1 H) (h2 : Evs B2 W v2 H) => Ev.sameE_any W h1 h2 (by omega))
  have HEV := Lib.hid hEv
  obtain ⟨la, lc, lb, lo, rfl, _⟩ := hEv
  generalize check H = ck at *
  obtain ⟨ce, ca⟩ := ck
  simp only at *
  clear hC hO hK hLI
  go_enter Try.func3, Try.ntmps3
  go_wp2_with (first
    | (go_at_call 7; (with_reducible refine HS.out.mono ?_); rintro e w1 ⟨rfl, hb1⟩; have t1 : True := trivial)
    | (refine wpList_make_full _ (by rfl) _ _ 22 (by rfl) w1.heap.size 41 i0 (.agg #[.int .i64 0, .int .i64 0, .int .i64 0, .int .i64 0, .int .i64 0, .int .i64 0, .int .i64 0, .int .i64 0, .int .i64 0]) 9 Try.underlying22 hi hz0 hz1 .i64 .i64 (H.length : Int) (H.length : Int) H.length (by rfl) (by rfl) rfl rfl (by rw [hz2]; omega) (by unfold maxLen; omega) (Nat.le_refl _) ?_; intro w2 hown hgrow; obtain ⟨cur, hgc, hcc⟩ := row_cells9 hown; have HGC := Lib.hid hgc; have HCC := Lib.hid hcc; have HB2 := Lib.hid (show Below w.heap.size w w2 from hb1.grown hgrow hb1.size (fun k hk => by cases hk)); clear hown hgrow hgc hcc)
    | (refine Cw.wpList_copy_wide (by rfl) _ _ _ _ (by rfl) 41 9 Try.underlying22 (by kernel_rfl) la H.length H.length lc w1.heap.size (by rfl) (by rfl) cur 41 HGC.out (ecs H) (ecs_len H) HCC.out (evs_src (HEV.out.below HB2.out)) (ecs_one H) w.heap.size _ HB2.out hb1.size ?_; intro w3 hg3 b3; have hB3 := b3; have HH3 := Lib.hid (evs_of_cells hg3.out); clear hg3 b3)
    | (go_at_call 8; (with_reducible refine (HP.out _ _ HH3.out).mono ?_); rintro e w4 ⟨rfl, hb4⟩; have hB4 := hB3.trans (hb4.mono hB3.size); have HH4 := Lib.hid (HH3.out.below hb4))
    | (go_at_call 9; (with_reducible refine (HR.out _ hB4).mono ?_); rintro e w5 ⟨rfl, hb5⟩; have hB5 := hB4.trans (hb5.mono hB4.size); have HH5 := Lib.hid (HH4.out.below (hb5.mono hb4.size)))
    | (go_at_call 10; (with_reducible refine (HSM.out _ _ _ _ _ HH5.out (HEV.out.below hB5)).mono ?_); rintro e w6 ⟨rfl, m6, rfl⟩))
  go_ret
  exact ⟨rfl, belowG hB5 m6⟩

end Gr
end Go.Proofs.Ytdaafledkloegaa

/-
  The opener of a list of events with its room, and the laws of chapter 15 in the frames' form, over what the program owes.
-/
namespace Go.Proofs.Ytdaafledkloegaa
open Go.RowKit Gn
set_option linter.unusedSimpArgs false
set_option linter.unusedVariables false
namespace Gr
open Ev (Evt EvIn EvsIn Evs evT ED ebulk ebulk_pos evs_of_rd len_sumE)
/-- a list of events as it came in, with its room -/
structure EvsK (W : World) (a : Option Addr) (n cap : Nat) (L : List Evt) : Prop where
  len : n = L.length
  room : n ≤ cap
  evs : EvsIn W (.slice a n cap) L
variable {H : Type} {enc : TypeId × Value → H} {W : World}

set_option maxRecDepth 100000 in
theorem open_evsK {B : Nat} {v : Value} {d : DataW H} {p : List MemPlace} {base : Nat} (hv : Value.okWide Try.prog W .any base 22 v)
    (h : DataW.Trod enc Try.prog W 0 (fun _ => true) true 22 v d p) (hlt : ∀ x ∈ p, x.block < W.heap.size) (hB : Rows.uptoBulk d ≤ B) (hB2 : B ≤ 1048576 := by omega) :
    ∃ (a : Option Addr) (n cap : Nat) (L : List Evt), v = .slice a n cap ∧ EvsK W a n cap L := by
  obtain ⟨cs, l, rfl, hx, hb⟩ := open_val (.slice evT) (by kernel_rfl) hv h hB
  change List ED at l
  replace hb : (l.map ebulk).sum + 1 ≤ B := hb
  have hx2 := hx
  obtain ⟨a0, cap0, b0, off0, h10, hc0, _⟩ := hx2
  obtain ⟨u, hu, hV, hs⟩ := evs_of_rd (X := l) hx
  have hl := len_sumE ebulk ebulk_pos l
  obtain ⟨a, cap, b, off, e1, e2⟩ := hV
  subst e1
  cases hu
  injection h10 with h11 _
  injection h11 with k1 k2 k3
  subst k1 k3
  exact ⟨_, _, _, _, rfl, by rfl, by rw [List.length_map]; exact hc0, ⟨⟨_, _, b, off, rfl, e2⟩, hs, by rw [List.length_map]; omega⟩⟩

theorem grammarChecks_in (hC : CheckOk) (hO : OpenOk) (hK : CloseOk) (a : Option Addr) (n cap : Nat) (L : List Evt) (w : World) (hE : EvsK w a n cap L) :
    Calls Try.prog 3 #[.slice a n cap] w fun e w' => e = .returned (.bool true) ∧ Below w.heap.size w w' := grammarChecks_walk hC hO hK _ L w hE.evs

theorem grammarOpens_in (hC : CheckOk) (hO : OpenOk) (hK : CloseOk) (a : Option Addr) (n cap : Nat) (L : List Evt) (w : World) (hE : EvsK w a n cap L) :
    Calls Try.prog 4 #[.slice a n cap] w fun e w' => e = .returned (.bool true) ∧ Below w.heap.size w w' := grammarOpens_walk hC hO hK _ L w ⟨_, _, _, rfl, hE.room⟩ hE.evs

theorem grammarBegins_in (hC : CheckOk) (hO : OpenOk) (hK : CloseOk) (a : Option Addr) (n cap : Nat) (L : List Evt) (w : World) (hE : EvsK w a n cap L) :
    Calls Try.prog 5 #[.slice a n cap] w fun e w' => e = .returned (.bool true) ∧ Below w.heap.size w w' := by
  obtain ⟨rfl, h2, h3⟩ := hE
  exact grammarBegins_walk hC hO hK a cap L w h3 h2

end Gr
end Go.Proofs.Ytdaafledkloegaa

/-
  The laws of chapter 15 over the landed program.
-/
namespace Go.Proofs.Ytdaafledkloegaa
open Go.RowKit
set_option linter.unusedSimpArgs false
set_option linter.unusedVariables false
namespace Gr
open Ev (Evt EvIn EvsIn Evs)
theorem grammarChecks_fr (a : Option Addr) (n cap : Nat) (L : List Evt) (w : World) (hE : EvsK w a n cap L) :
    Calls Try.prog 3 #[.slice a n cap] w fun e w' => e = .returned (.bool true) ∧ Below w.heap.size w w' := grammarChecks_in checkOk openOk closeOk a n cap L w hE

theorem grammarOpens_fr (a : Option Addr) (n cap : Nat) (L : List Evt) (w : World) (hE : EvsK w a n cap L) :
    Calls Try.prog 4 #[.slice a n cap] w fun e w' => e = .returned (.bool true) ∧ Below w.heap.size w w' := grammarOpens_in checkOk openOk closeOk a n cap L w hE

theorem grammarBegins_fr (a : Option Addr) (n cap : Nat) (L : List Evt) (w : World) (hE : EvsK w a n cap L) :
    Calls Try.prog 5 #[.slice a n cap] w fun e w' => e = .returned (.bool true) ∧ Below w.heap.size w w' := grammarBegins_in checkOk openOk closeOk a n cap L w hE

end Gr
end Go.Proofs.Ytdaafledkloegaa
