import Derived.Deep.Cut
import Derived.Deep.CutRange
import Derived.StillTailTactics
import Derived.WideKeyEntry
import Derived.Test.YtdaafledkloegaaPart5
/-
  The program's mayStand of chapter 15.
-/
namespace Go.Proofs.Ytdaafledkloegaa
open Go.RowKit
set_option linter.unusedSimpArgs false
set_option linter.unusedVariables false
namespace Gr
open Ev (Evt EvIn hasB validB command closing zero fields Evs AtE evC evV W64)

set_option maxRecDepth 100000 in
set_option maxHeartbeats 16000000 in
theorem stand_any (v : Value) (mb : Nat) (L : List Evt) (x : Evt) (w : World) (hP : Past w mb L) (hE : Evs w.heap.size w v L) (hAll : ∀ y ∈ L, EvIn y) (hL : L.length ≤ 1048576) (hx : EvIn x) :
    Calls Try.prog 24 #[.agg #[v, .map (some mb)], evV x] w fun e w' => e = .returned (.bool (stB L x)) ∧ Below w.heap.size w w' := by
  have HV := Lib.hid (show stB L x = (if validB x = false ∨ x.id ≠ (L.length : Int) + 1 then false else if L.length = 0 then decide (x.kind = 1) else if x.kind = 1 ∨ x.time < (ev L (L.length - 1)).time ∨ clB L = true then false else if x.kind = 2 then decide (x.a = (L.length : Int)) else mdB L x && nbB L x) from rfl)
  have HVD := Lib.hid (fun (h : EvIn x) W => Ev.validD_any x h W)
  have HCL := Lib.hid (fun W (hb : Below w.heap.size w W) => closed_any v mb L W (hE.grow hb hb.size) hL)
  have HMD := Lib.hid (fun (hn : 0 < L.length) W (hb : Below w.heap.size w W) => made_any v mb L x W (hE.grow hb hb.size) hL hn)
  have HNB := Lib.hid (fun (hv : validB x = true) W (hb : Below w.heap.size w W) => named_any v mb L x W (hP.grow hb) (hE.grow hb hb.size) hAll hL hx (fun h => valid_names hv h))
  obtain ⟨a, cap, b, off, rfl, ha, hc⟩ := hE
  have hA0 : Below w.heap.size w w := Below.refl _ _
  obtain ⟨xi, xt, xk, xa, xb, xc, xd, xe, xf⟩ := x
  unfold evV at HVD HMD HNB ⊢
  simp only at HV HVD HMD HNB ⊢
  obtain ⟨wx, hwx⟩ : ∃ wx, w.alloc (.cells #[.slice a L.length cap, .map (some mb)] 45) = wx := ⟨_, rfl⟩
  have oX := Ob.Obj.new w 45 [.slice a L.length cap, .map (some mb)]
  rw [show w.alloc (.cells ([.slice a L.length cap, .map (some mb)] : List Value).toArray 45) = wx from hwx] at oX
  have hA1 : Below w.heap.size w wx := by rw [← hwx]; exact hA0.alloc hA0.size _
  obtain ⟨wy, hwy⟩ : ∃ wy, wx.alloc (.cells #[.int .i64 xi, .int .i64 xt, .int .i64 xk, .int .i64 xa, .int .i64 xb, .int .i64 xc, .int .i64 xd, .int .i64 xe, .int .i64 xf] 41) = wy := ⟨_, rfl⟩
  have oY := Ob.Obj.new wx 41 [.int .i64 xi, .int .i64 xt, .int .i64 xk, .int .i64 xa, .int .i64 xb, .int .i64 xc, .int .i64 xd, .int .i64 xe, .int .i64 xf]
  rw [show wx.alloc (.cells ([.int .i64 xi, .int .i64 xt, .int .i64 xk, .int .i64 xa, .int .i64 xb, .int .i64 xc, .int .i64 xd, .int .i64 xe, .int .i64 xf] : List Value).toArray 41) = wy from hwy] at oY
  have hA2 : Below w.heap.size w wy := by rw [← hwy]; exact hA1.alloc hA1.size _
  have oX2 : Ob.Obj wy w.heap.size 45 [.slice a L.length cap, .map (some mb)] := by rw [← hwy]; exact oX.alloc _
  have x0 := oX2.cell 0
  have x1 := oX2.cell 1
  have y0 := oY.cell 0
  have y1 := oY.cell 1
  have y2 := oY.cell 2
  have y3 := oY.cell 3
  have y4 := oY.cell 4
  have y5 := oY.cell 5
  have y6 := oY.cell 6
  have y7 := oY.cell 7
  have y8 := oY.cell 8
  have hxl := oX2.lt
  have hyl := oY.lt
  simp at x0 x1 y0 y1 y2 y3 y4 y5 y6 y7 y8
  have HA := Lib.hid hA2
  have hys := hA2.size
  have HXB := Lib.hid (fun W (hb : Below wy.heap.size wy W) => oX2.below hb)
  have HYB := Lib.hid (fun W (hb : Below wy.heap.size wy W) => oY.below hb)
  have HVX := Lib.hid (HVD.out hx wy)
  have hwl : IntKind.i64.wrap ((L.length : Int) + 1) = (L.length : Int) + 1 := by rw [IntKind.wrap_i64]; omega
  have HEB := Lib.hid (fun W (hb : Below w.heap.size w W) m (hm : m < L.length) => show AtE W b (off + m * 9) (ev L m) from by rw [ev_at hm]; exact (hc m hm).below hb (ha (by omega)).2)
  have HAA := Lib.hid (fun (h : 0 < L.length) => ha h)
  clear hA0 hA1 hA2 oX oX2 oY ha hc hP hAll hx HVD
  generalize hll : L.length = ll at *
  have tk := trivial
  cases hv : validB ⟨xi, xt, xk, xa, xb, xc, xd, xe, xf⟩ with
  | false =>
    rw [hv] at HVX
    have HV2 := Lib.hid (show stB L ⟨xi, xt, xk, xa, xb, xc, xd, xe, xf⟩ = false from by rw [HV.out, if_pos (.inl hv)])
    clear HV HCL HMD HNB hv HEB HAA
    go_enter Try.func24, Try.ntmps24
    go_wp2_with (go_at_call 35; (with_reducible refine HVX.out.mono ?_); rintro e w5 ⟨rfl, hb5⟩; have hB5 := HA.out.trans (hb5.mono hys); have oX5 := HXB.out w5 hb5; have oY5 := HYB.out w5 hb5; have p0 := oX5.cell 0; have p1 := oX5.cell 1; have r0 := oY5.cell 0; have r1 := oY5.cell 1; have r2 := oY5.cell 2; have r3 := oY5.cell 3; have r4 := oY5.cell 4; have r5 := oY5.cell 5; have r6 := oY5.cell 6; have r7 := oY5.cell 7; have r8 := oY5.cell 8; have hpl := oX5.lt; have hrl := oY5.lt; simp at p0 p1 r0 r1 r2 r3 r4 r5 r6 r7 r8; clear oX5 oY5; have hs5 := hB5.size)
    all_goals go_ret
    all_goals exact ⟨by rw [HV2.out]; rfl, hB5⟩
  | true =>
    rw [hv] at HVX
    have HNB2 := Lib.hid (HNB.out hv)
    clear HNB
    by_cases hid : xi = (ll : Int) + 1
    · subst hid
      by_cases h0 : ll = 0
      · have hlz : ((ll : Int) == 0) = true := by simp [h0]
        have HV2 := Lib.hid (show stB L ⟨(ll : Int) + 1, xt, xk, xa, xb, xc, xd, xe, xf⟩ = (xk == 1) from by rw [HV.out, if_neg (by rw [hv]; simp), if_pos h0]; rfl)
        clear HV HCL HMD HNB2 hv HEB HAA h0
        go_enter Try.func24, Try.ntmps24
        go_wp2_with (go_at_call 35; (with_reducible refine HVX.out.mono ?_); rintro e w5 ⟨rfl, hb5⟩; have hB5 := HA.out.trans (hb5.mono hys); have oX5 := HXB.out w5 hb5; have oY5 := HYB.out w5 hb5; have p0 := oX5.cell 0; have p1 := oX5.cell 1; have r0 := oY5.cell 0; have r1 := oY5.cell 1; have r2 := oY5.cell 2; have r3 := oY5.cell 3; have r4 := oY5.cell 4; have r5 := oY5.cell 5; have r6 := oY5.cell 6; have r7 := oY5.cell 7; have r8 := oY5.cell 8; have hpl := oX5.lt; have hrl := oY5.lt; simp at p0 p1 r0 r1 r2 r3 r4 r5 r6 r7 r8; clear oX5 oY5; have hs5 := hB5.size)
        all_goals go_ret
        all_goals exact ⟨by rw [HV2.out]; first | rfl | (simp; done), hB5⟩
      · have hlb : ((ll : Int) == 0) = false := by simp; omega
        obtain ⟨m, hmm⟩ : ∃ m, ll = m + 1 := ⟨ll - 1, by omega⟩
        have hm : m < ll := by omega
        obtain ⟨rfl, hbl⟩ := HAA.out (by omega)
        have hi1 : (0 : Int) ≤ (m : Int) ∧ (m : Int) < (ll : Int) := by omega
        have hw2 : IntKind.i64.wrap ((ll : Int) - 1) = (m : Int) := by rw [IntKind.wrap_i64]; omega
        have HG := Lib.hid (fun W (hb : Below w.heap.size w W) => show W.cell? ⟨b, off + m * 9 + 1, none⟩ = some (.int .i64 (ev L m).time) from HEB.out W hb m hm 1 (by decide))
        have HMD2 := Lib.hid (HMD.out (by omega))
        have HV1 := Lib.hid (show stB L ⟨(ll : Int) + 1, xt, xk, xa, xb, xc, xd, xe, xf⟩ = (if xk = 1 ∨ xt < (ev L m).time ∨ clB L = true then false else if xk = 2 then decide (xa = (ll : Int)) else mdB L ⟨(ll : Int) + 1, xt, xk, xa, xb, xc, xd, xe, xf⟩ && nbB L ⟨(ll : Int) + 1, xt, xk, xa, xb, xc, xd, xe, xf⟩) from by rw [HV.out, if_neg (by rw [hv]; simp), if_neg h0, show ll - 1 = m by omega])
        clear HV hv HEB HAA HMD h0 hmm
        generalize (ev L m).time = yt at *
        by_cases hk1 : xk = 1
        · subst hk1
          have HV2 := Lib.hid (show stB L ⟨(ll : Int) + 1, xt, 1, xa, xb, xc, xd, xe, xf⟩ = false from by rw [HV1.out, if_pos (.inl rfl)])
          clear HV1 HCL HMD2 HNB2
          go_enter Try.func24, Try.ntmps24
          go_wp2_with (go_at_call 35; (with_reducible refine HVX.out.mono ?_); rintro e w5 ⟨rfl, hb5⟩; have hB5 := HA.out.trans (hb5.mono hys); have oX5 := HXB.out w5 hb5; have oY5 := HYB.out w5 hb5; have p0 := oX5.cell 0; have p1 := oX5.cell 1; have r0 := oY5.cell 0; have r1 := oY5.cell 1; have r2 := oY5.cell 2; have r3 := oY5.cell 3; have r4 := oY5.cell 4; have r5 := oY5.cell 5; have r6 := oY5.cell 6; have r7 := oY5.cell 7; have r8 := oY5.cell 8; have hpl := oX5.lt; have hrl := oY5.lt; simp at p0 p1 r0 r1 r2 r3 r4 r5 r6 r7 r8; clear oX5 oY5; have hs5 := hB5.size; have g1 := HG.out w5 hB5; have hbl5 : b < w5.heap.size := Nat.lt_of_lt_of_le hbl hB5.size)
          go_big_quiet (fail)
          go_wp2_with fail
          all_goals go_ret
          all_goals exact ⟨by rw [HV2.out]; rfl, belowN hB5 _⟩
        · have k1 : (xk == 1) = false := by simpa using hk1
          by_cases ht : xt < yt
          · have HV2 := Lib.hid (show stB L ⟨(ll : Int) + 1, xt, xk, xa, xb, xc, xd, xe, xf⟩ = false from by rw [HV1.out, if_pos (.inr (.inl ht))])
            have htd : decide (xt < yt) = true := decide_eq_true ht
            clear HV1 HCL HMD2 HNB2 hk1
            go_enter Try.func24, Try.ntmps24
            go_wp2_with (go_at_call 35; (with_reducible refine HVX.out.mono ?_); rintro e w5 ⟨rfl, hb5⟩; have hB5 := HA.out.trans (hb5.mono hys); have oX5 := HXB.out w5 hb5; have oY5 := HYB.out w5 hb5; have p0 := oX5.cell 0; have p1 := oX5.cell 1; have r0 := oY5.cell 0; have r1 := oY5.cell 1; have r2 := oY5.cell 2; have r3 := oY5.cell 3; have r4 := oY5.cell 4; have r5 := oY5.cell 5; have r6 := oY5.cell 6; have r7 := oY5.cell 7; have r8 := oY5.cell 8; have hpl := oX5.lt; have hrl := oY5.lt; simp at p0 p1 r0 r1 r2 r3 r4 r5 r6 r7 r8; clear oX5 oY5; have hs5 := hB5.size; have g1 := HG.out w5 hB5; have hbl5 : b < w5.heap.size := Nat.lt_of_lt_of_le hbl hB5.size)
            go_big_quiet (fail)
            go_wp2_with fail
            all_goals go_ret
            all_goals exact ⟨by rw [HV2.out]; rfl, belowN hB5 _⟩
          · have htd : decide (xt < yt) = false := decide_eq_false ht
            generalize hcb : clB L = cb at *
            cases cb with
            | true =>
              have HV2 := Lib.hid (show stB L ⟨(ll : Int) + 1, xt, xk, xa, xb, xc, xd, xe, xf⟩ = false from by rw [HV1.out, if_pos (.inr (.inr rfl))])
              clear HV1 HMD2 HNB2 hk1 ht hcb
              go_enter Try.func24, Try.ntmps24
              go_wp2_with (go_at_call 35; (with_reducible refine HVX.out.mono ?_); rintro e w5 ⟨rfl, hb5⟩; have hB5 := HA.out.trans (hb5.mono hys); have oX5 := HXB.out w5 hb5; have oY5 := HYB.out w5 hb5; have p0 := oX5.cell 0; have p1 := oX5.cell 1; have r0 := oY5.cell 0; have r1 := oY5.cell 1; have r2 := oY5.cell 2; have r3 := oY5.cell 3; have r4 := oY5.cell 4; have r5 := oY5.cell 5; have r6 := oY5.cell 6; have r7 := oY5.cell 7; have r8 := oY5.cell 8; have hpl := oX5.lt; have hrl := oY5.lt; simp at p0 p1 r0 r1 r2 r3 r4 r5 r6 r7 r8; clear oX5 oY5; have hs5 := hB5.size; have g1 := HG.out w5 hB5; have hbl5 : b < w5.heap.size := Nat.lt_of_lt_of_le hbl hB5.size)
              go_still_tail 17, (by kernel_rfl)
              change wpList _ _ _ _ _ (World.drew w5)
              have hDD : Below w5.heap.size w5 w5.drew := ⟨rfl, rfl, rfl, Nat.le_refl _, fun _ _ => rfl⟩
              have hBd := hB5.trans (hDD.mono hB5.size)
              have hYd := hb5.trans (hDD.mono hb5.size)
              clear hDD
              generalize World.drew w5 = wd at *
              have hsd := hBd.size
              have hyd := hYd.size
              have oX5 := HXB.out wd hYd
              have oY5 := HYB.out wd hYd
              have U0 := oX5.cell 0
              have U1 := oX5.cell 1
              have V0 := oY5.cell 0
              have V1 := oY5.cell 1
              have V2 := oY5.cell 2
              have V3 := oY5.cell 3
              have V4 := oY5.cell 4
              have V5 := oY5.cell 5
              have V6 := oY5.cell 6
              have V7 := oY5.cell 7
              have V8 := oY5.cell 8
              have hUl := oX5.lt
              have hVl := oY5.lt
              simp at U0 U1 V0 V1 V2 V3 V4 V5 V6 V7 V8
              clear oX5 oY5
              go_wp2_with ((go_at_call 22; (with_reducible refine (HCL.out wd hBd).mono ?_); rintro e w6 ⟨rfl, hb6⟩; have hB6 := hBd.trans (hb6.mono hsd); have hY6 := hYd.trans (hb6.mono hyd); have hs6 := hB6.size; have oX5 := HXB.out w6 hY6; have oY5 := HYB.out w6 hY6; have P0 := oX5.cell 0; have P1 := oX5.cell 1; have R0 := oY5.cell 0; have R1 := oY5.cell 1; have R2 := oY5.cell 2; have R3 := oY5.cell 3; have R4 := oY5.cell 4; have R5 := oY5.cell 5; have R6 := oY5.cell 6; have R7 := oY5.cell 7; have R8 := oY5.cell 8; have hPl := oX5.lt; have hRl := oY5.lt; simp at P0 P1 R0 R1 R2 R3 R4 R5 R6 R7 R8; clear oX5 oY5))
              all_goals go_ret
              all_goals exact ⟨by rw [HV2.out]; rfl, hB6⟩
            | false =>
              have HV3 := Lib.hid (show stB L ⟨(ll : Int) + 1, xt, xk, xa, xb, xc, xd, xe, xf⟩ = (if xk = 2 then decide (xa = (ll : Int)) else mdB L ⟨(ll : Int) + 1, xt, xk, xa, xb, xc, xd, xe, xf⟩ && nbB L ⟨(ll : Int) + 1, xt, xk, xa, xb, xc, xd, xe, xf⟩) from by rw [HV1.out, if_neg (by simp [hk1, ht])])
              clear HV1 hk1 ht hcb
              by_cases hk2 : xk = 2
              · subst hk2
                have HV2 := Lib.hid (show stB L ⟨(ll : Int) + 1, xt, 2, xa, xb, xc, xd, xe, xf⟩ = (xa == (ll : Int)) from by rw [HV3.out, if_pos rfl]; rfl)
                clear HV3 HMD2 HNB2
                go_enter Try.func24, Try.ntmps24
                go_wp2_with (go_at_call 35; (with_reducible refine HVX.out.mono ?_); rintro e w5 ⟨rfl, hb5⟩; have hB5 := HA.out.trans (hb5.mono hys); have oX5 := HXB.out w5 hb5; have oY5 := HYB.out w5 hb5; have p0 := oX5.cell 0; have p1 := oX5.cell 1; have r0 := oY5.cell 0; have r1 := oY5.cell 1; have r2 := oY5.cell 2; have r3 := oY5.cell 3; have r4 := oY5.cell 4; have r5 := oY5.cell 5; have r6 := oY5.cell 6; have r7 := oY5.cell 7; have r8 := oY5.cell 8; have hpl := oX5.lt; have hrl := oY5.lt; simp at p0 p1 r0 r1 r2 r3 r4 r5 r6 r7 r8; clear oX5 oY5; have hs5 := hB5.size; have g1 := HG.out w5 hB5; have hbl5 : b < w5.heap.size := Nat.lt_of_lt_of_le hbl hB5.size)
                go_still_tail 17, (by kernel_rfl)
                change wpList _ _ _ _ _ (World.drew w5)
                have hDD : Below w5.heap.size w5 w5.drew := ⟨rfl, rfl, rfl, Nat.le_refl _, fun _ _ => rfl⟩
                have hBd := hB5.trans (hDD.mono hB5.size)
                have hYd := hb5.trans (hDD.mono hb5.size)
                clear hDD
                generalize World.drew w5 = wd at *
                have hsd := hBd.size
                have hyd := hYd.size
                have oX5 := HXB.out wd hYd
                have oY5 := HYB.out wd hYd
                have U0 := oX5.cell 0
                have U1 := oX5.cell 1
                have V0 := oY5.cell 0
                have V1 := oY5.cell 1
                have V2 := oY5.cell 2
                have V3 := oY5.cell 3
                have V4 := oY5.cell 4
                have V5 := oY5.cell 5
                have V6 := oY5.cell 6
                have V7 := oY5.cell 7
                have V8 := oY5.cell 8
                have hUl := oX5.lt
                have hVl := oY5.lt
                simp at U0 U1 V0 V1 V2 V3 V4 V5 V6 V7 V8
                clear oX5 oY5
                go_wp2_with ((go_at_call 22; (with_reducible refine (HCL.out wd hBd).mono ?_); rintro e w6 ⟨rfl, hb6⟩; have hB6 := hBd.trans (hb6.mono hsd); have hY6 := hYd.trans (hb6.mono hyd); have hs6 := hB6.size; have oX5 := HXB.out w6 hY6; have oY5 := HYB.out w6 hY6; have P0 := oX5.cell 0; have P1 := oX5.cell 1; have R0 := oY5.cell 0; have R1 := oY5.cell 1; have R2 := oY5.cell 2; have R3 := oY5.cell 3; have R4 := oY5.cell 4; have R5 := oY5.cell 5; have R6 := oY5.cell 6; have R7 := oY5.cell 7; have R8 := oY5.cell 8; have hPl := oX5.lt; have hRl := oY5.lt; simp at P0 P1 R0 R1 R2 R3 R4 R5 R6 R7 R8; clear oX5 oY5))
                all_goals go_ret
                all_goals exact ⟨by rw [HV2.out]; first | rfl | (simp; done), hB6⟩
              · have k2 : (xk == 2) = false := by simpa using hk2
                have HV4 := Lib.hid (show stB L ⟨(ll : Int) + 1, xt, xk, xa, xb, xc, xd, xe, xf⟩ = (mdB L ⟨(ll : Int) + 1, xt, xk, xa, xb, xc, xd, xe, xf⟩ && nbB L ⟨(ll : Int) + 1, xt, xk, xa, xb, xc, xd, xe, xf⟩) from by rw [HV3.out, if_neg hk2])
                clear HV3 hk2
                generalize mdB L ⟨(ll : Int) + 1, xt, xk, xa, xb, xc, xd, xe, xf⟩ = md at *
                generalize nbB L ⟨(ll : Int) + 1, xt, xk, xa, xb, xc, xd, xe, xf⟩ = nb at *
                cases md with
                | false =>
                  have HV2 := Lib.hid (show stB L ⟨(ll : Int) + 1, xt, xk, xa, xb, xc, xd, xe, xf⟩ = false from by rw [HV4.out]; rfl)
                  clear HV4 HNB2
                  go_enter Try.func24, Try.ntmps24
                  go_wp2_with (go_at_call 35; (with_reducible refine HVX.out.mono ?_); rintro e w5 ⟨rfl, hb5⟩; have hB5 := HA.out.trans (hb5.mono hys); have oX5 := HXB.out w5 hb5; have oY5 := HYB.out w5 hb5; have p0 := oX5.cell 0; have p1 := oX5.cell 1; have r0 := oY5.cell 0; have r1 := oY5.cell 1; have r2 := oY5.cell 2; have r3 := oY5.cell 3; have r4 := oY5.cell 4; have r5 := oY5.cell 5; have r6 := oY5.cell 6; have r7 := oY5.cell 7; have r8 := oY5.cell 8; have hpl := oX5.lt; have hrl := oY5.lt; simp at p0 p1 r0 r1 r2 r3 r4 r5 r6 r7 r8; clear oX5 oY5; have hs5 := hB5.size; have g1 := HG.out w5 hB5; have hbl5 : b < w5.heap.size := Nat.lt_of_lt_of_le hbl hB5.size)
                  go_still_tail 17, (by kernel_rfl)
                  change wpList _ _ _ _ _ (World.drew w5)
                  have hDD : Below w5.heap.size w5 w5.drew := ⟨rfl, rfl, rfl, Nat.le_refl _, fun _ _ => rfl⟩
                  have hBd := hB5.trans (hDD.mono hB5.size)
                  have hYd := hb5.trans (hDD.mono hb5.size)
                  clear hDD
                  generalize World.drew w5 = wd at *
                  have hsd := hBd.size
                  have hyd := hYd.size
                  have oX5 := HXB.out wd hYd
                  have oY5 := HYB.out wd hYd
                  have U0 := oX5.cell 0
                  have U1 := oX5.cell 1
                  have V0 := oY5.cell 0
                  have V1 := oY5.cell 1
                  have V2 := oY5.cell 2
                  have V3 := oY5.cell 3
                  have V4 := oY5.cell 4
                  have V5 := oY5.cell 5
                  have V6 := oY5.cell 6
                  have V7 := oY5.cell 7
                  have V8 := oY5.cell 8
                  have hUl := oX5.lt
                  have hVl := oY5.lt
                  simp at U0 U1 V0 V1 V2 V3 V4 V5 V6 V7 V8
                  clear oX5 oY5
                  go_wp2_with (first | (go_at_call 22; (with_reducible refine (HCL.out wd hBd).mono ?_); rintro e w6 ⟨rfl, hb6⟩; have hB6 := hBd.trans (hb6.mono hsd); have hY6 := hYd.trans (hb6.mono hyd); have hs6 := hB6.size; have oX5 := HXB.out w6 hY6; have oY5 := HYB.out w6 hY6; have P0 := oX5.cell 0; have P1 := oX5.cell 1; have R0 := oY5.cell 0; have R1 := oY5.cell 1; have R2 := oY5.cell 2; have R3 := oY5.cell 3; have R4 := oY5.cell 4; have R5 := oY5.cell 5; have R6 := oY5.cell 6; have R7 := oY5.cell 7; have R8 := oY5.cell 8; have hPl := oX5.lt; have hRl := oY5.lt; simp at P0 P1 R0 R1 R2 R3 R4 R5 R6 R7 R8; clear oX5 oY5) | (go_at_call 36; (with_reducible refine (HMD2.out w6 hB6).mono ?_); rintro e w7 ⟨rfl, hb7⟩; have hB7 := hB6.trans (hb7.mono hs6); have hY7 := hY6.trans (hb7.mono hY6.size); have oX5 := HXB.out w7 hY7; have oY5 := HYB.out w7 hY7; have S0 := oX5.cell 0; have S1 := oX5.cell 1; have T0 := oY5.cell 0; have T1 := oY5.cell 1; have T2 := oY5.cell 2; have T3 := oY5.cell 3; have T4 := oY5.cell 4; have T5 := oY5.cell 5; have T6 := oY5.cell 6; have T7 := oY5.cell 7; have T8 := oY5.cell 8; have hSl := oX5.lt; have hTl := oY5.lt; simp at S0 S1 T0 T1 T2 T3 T4 T5 T6 T7 T8; clear oX5 oY5; have hs7 := hB7.size))
                  all_goals go_ret
                  all_goals exact ⟨by rw [HV2.out]; rfl, hB7⟩
                | true =>
                  have HV2 := Lib.hid (show stB L ⟨(ll : Int) + 1, xt, xk, xa, xb, xc, xd, xe, xf⟩ = nb from by rw [HV4.out]; rfl)
                  clear HV4
                  go_enter Try.func24, Try.ntmps24
                  go_wp2_with (go_at_call 35; (with_reducible refine HVX.out.mono ?_); rintro e w5 ⟨rfl, hb5⟩; have hB5 := HA.out.trans (hb5.mono hys); have oX5 := HXB.out w5 hb5; have oY5 := HYB.out w5 hb5; have p0 := oX5.cell 0; have p1 := oX5.cell 1; have r0 := oY5.cell 0; have r1 := oY5.cell 1; have r2 := oY5.cell 2; have r3 := oY5.cell 3; have r4 := oY5.cell 4; have r5 := oY5.cell 5; have r6 := oY5.cell 6; have r7 := oY5.cell 7; have r8 := oY5.cell 8; have hpl := oX5.lt; have hrl := oY5.lt; simp at p0 p1 r0 r1 r2 r3 r4 r5 r6 r7 r8; clear oX5 oY5; have hs5 := hB5.size; have g1 := HG.out w5 hB5; have hbl5 : b < w5.heap.size := Nat.lt_of_lt_of_le hbl hB5.size)
                  go_still_tail 17, (by kernel_rfl)
                  change wpList _ _ _ _ _ (World.drew w5)
                  have hDD : Below w5.heap.size w5 w5.drew := ⟨rfl, rfl, rfl, Nat.le_refl _, fun _ _ => rfl⟩
                  have hBd := hB5.trans (hDD.mono hB5.size)
                  have hYd := hb5.trans (hDD.mono hb5.size)
                  clear hDD
                  generalize World.drew w5 = wd at *
                  have hsd := hBd.size
                  have hyd := hYd.size
                  have oX5 := HXB.out wd hYd
                  have oY5 := HYB.out wd hYd
                  have U0 := oX5.cell 0
                  have U1 := oX5.cell 1
                  have V0 := oY5.cell 0
                  have V1 := oY5.cell 1
                  have V2 := oY5.cell 2
                  have V3 := oY5.cell 3
                  have V4 := oY5.cell 4
                  have V5 := oY5.cell 5
                  have V6 := oY5.cell 6
                  have V7 := oY5.cell 7
                  have V8 := oY5.cell 8
                  have hUl := oX5.lt
                  have hVl := oY5.lt
                  simp at U0 U1 V0 V1 V2 V3 V4 V5 V6 V7 V8
                  clear oX5 oY5
                  go_wp2_with (first | (go_at_call 22; (with_reducible refine (HCL.out wd hBd).mono ?_); rintro e w6 ⟨rfl, hb6⟩; have hB6 := hBd.trans (hb6.mono hsd); have hY6 := hYd.trans (hb6.mono hyd); have hs6 := hB6.size; have oX5 := HXB.out w6 hY6; have oY5 := HYB.out w6 hY6; have P0 := oX5.cell 0; have P1 := oX5.cell 1; have R0 := oY5.cell 0; have R1 := oY5.cell 1; have R2 := oY5.cell 2; have R3 := oY5.cell 3; have R4 := oY5.cell 4; have R5 := oY5.cell 5; have R6 := oY5.cell 6; have R7 := oY5.cell 7; have R8 := oY5.cell 8; have hPl := oX5.lt; have hRl := oY5.lt; simp at P0 P1 R0 R1 R2 R3 R4 R5 R6 R7 R8; clear oX5 oY5) | (go_at_call 36; (with_reducible refine (HMD2.out w6 hB6).mono ?_); rintro e w7 ⟨rfl, hb7⟩; have hB7 := hB6.trans (hb7.mono hs6); have hY7 := hY6.trans (hb7.mono hY6.size); have oX5 := HXB.out w7 hY7; have oY5 := HYB.out w7 hY7; have S0 := oX5.cell 0; have S1 := oX5.cell 1; have T0 := oY5.cell 0; have T1 := oY5.cell 1; have T2 := oY5.cell 2; have T3 := oY5.cell 3; have T4 := oY5.cell 4; have T5 := oY5.cell 5; have T6 := oY5.cell 6; have T7 := oY5.cell 7; have T8 := oY5.cell 8; have hSl := oX5.lt; have hTl := oY5.lt; simp at S0 S1 T0 T1 T2 T3 T4 T5 T6 T7 T8; clear oX5 oY5; have hs7 := hB7.size) | (go_at_call 37; (with_reducible refine (HNB2.out w7 hB7).mono ?_); rintro e w8 ⟨rfl, hb8⟩; have hB8 := hB7.trans (hb8.mono hs7)))
                  all_goals go_ret
                  all_goals exact ⟨by rw [HV2.out]; rfl, hB8⟩
    · have hib : (xi != (ll : Int) + 1) = true := by simpa using hid
      have hib2 : (xi == (ll : Int) + 1) = false := by simpa using hid
      have HV2 := Lib.hid (show stB L ⟨xi, xt, xk, xa, xb, xc, xd, xe, xf⟩ = false from by rw [HV.out, if_pos (.inr hid)])
      clear HV HCL HMD HNB2 hv HEB HAA
      go_enter Try.func24, Try.ntmps24
      go_wp2_with (go_at_call 35; (with_reducible refine HVX.out.mono ?_); rintro e w5 ⟨rfl, hb5⟩; have hB5 := HA.out.trans (hb5.mono hys); have oX5 := HXB.out w5 hb5; have oY5 := HYB.out w5 hb5; have p0 := oX5.cell 0; have p1 := oX5.cell 1; have r0 := oY5.cell 0; have r1 := oY5.cell 1; have r2 := oY5.cell 2; have r3 := oY5.cell 3; have r4 := oY5.cell 4; have r5 := oY5.cell 5; have r6 := oY5.cell 6; have r7 := oY5.cell 7; have r8 := oY5.cell 8; have hpl := oX5.lt; have hrl := oY5.lt; simp at p0 p1 r0 r1 r2 r3 r4 r5 r6 r7 r8; clear oX5 oY5; have hs5 := hB5.size)
      all_goals go_ret
      all_goals exact ⟨by rw [HV2.out]; rfl, hB5⟩

end Gr
end Go.Proofs.Ytdaafledkloegaa

/-
  The program's map of what was named, one more told: the entry, the look-up behind it, the store.
-/
namespace Go.Proofs.Ytdaafledkloegaa
open Go.RowKit
set_option linter.unusedSimpArgs false
set_option linter.unusedVariables false
namespace Gr
open Ev (Evt EvIn hasB validB command closing zero fields Evs AtE evC evV W64)
open Go.Maps Go.WideElems Go.MapKept Go.ChangeMaps
section
variable {P : Program} {w : World} {t k e : TypeId} {R : Value → Option (DataW Unit × List MemPlace)} {b : Nat} {es : Array MapEntry} {clock : Nat}
/-- the entry that a place in a map has or gets: what it holds is what a look-up gives; as if that were stored -/
theorem entry_look (K : Keyed P k) (ht : P.underlying t = some (.map k e)) {z : Value} (hz : ∀ u : World, (zeroValue e).run P u = .ok z u) (hb : w.heap[b]? = some (.map es clock)) (F : Fit P k R es clock)
    {key : Value} {kl : Lit} (hkey : keyOf P k key = some kl) :
    ∃ (v0 : Value) (st : Nat) (es1 : Array MapEntry) (clock1 : Nat), (Instr.mapEntry t (.map (some b)) key).run P w = .ok (.tuple #[v0, goInt st]) (setBlock w b (.map es1 clock1)) ∧
      (Instr.lookup t (.map (some b)) key false).run P w = .ok v0 w ∧ (Instr.mapUpdate t (.map (some b)) key v0).run P w = .ok () (setBlock w b (.map es1 clock1)) := by
  rcases K.find w hkey es.toList F.keys with ⟨h1, h2⟩ | ⟨j, e0, h1, h2, h3⟩
  · refine ⟨z, clock, es.push ⟨key, z, clock⟩, clock + 1, ?_, ?_, ?_⟩
    · simp [Instr.mapEntry, run_underlying ht, MapKept.run_getObj_map hb, K.check w false hkey, h1, hz, MapKept.run_setObj_map _ hb, Result.andThen, setBlock]
    · simp [Instr.lookup, run_underlying ht, MapKept.run_getObj_map hb, K.check w _ hkey, h1, hz, Result.andThen]
    · simp [Instr.mapUpdate, run_underlying ht, MapKept.run_getObj_map hb, K.check w false hkey, h1, MapKept.run_setObj_map _ hb, Result.andThen, setBlock]
  · have hj : es[j]? = some e0 := by simpa using h2
    have hsame : es.modify j (fun e => { e with key := key }) = es := by
      apply Array.ext'
      rw [Array.toList_modify, modify_eq_set _ _ _ _ h2]
      have : ({ e0 with key := key } : MapEntry) = e0 := by rw [← h3]
      rw [this]
      exact set_self _ _ _ h2
    have hsame2 : es.modify j (fun e' => { e' with key := key, val := e0.val }) = es := by
      apply Array.ext'
      rw [Array.toList_modify, modify_eq_set _ _ _ _ h2]
      have : ({ e0 with key := key, val := e0.val } : MapEntry) = e0 := by rw [← h3]
      rw [this]
      exact set_self _ _ _ h2
    refine ⟨e0.val, e0.born, es, clock, ?_, ?_, ?_⟩
    · simp [Instr.mapEntry, run_underlying ht, MapKept.run_getObj_map hb, K.check w false hkey, h1, hj, h3, K.stays w hkey, hsame, MapKept.run_setObj_map _ hb, Result.andThen, setBlock]
    · simp [Instr.lookup, run_underlying ht, MapKept.run_getObj_map hb, K.check w _ hkey, h1, Result.andThen]
    · simp [Instr.mapUpdate, run_underlying ht, MapKept.run_getObj_map hb, K.check w false hkey, h1, hj, h3, K.stays w hkey, hsame2, MapKept.run_setObj_map _ hb, Result.andThen, setBlock]
end

/-- one more is named: in the order of the text and in the other one -/
theorem Past.put {W : World} {mb : Nat} {L : List Evt} (h : Past W mb L) (x : Evt) (hx : about x.kind ≠ 0) (wk : W64 x.kind) (wa : W64 x.a) (hL : L.length < 1048576) :
    ∃ (st : Nat) (W1 W2 : World),
      (Instr.lookup 43 (.map (some mb)) (.agg #[.int .i64 x.kind, .int .i64 x.a]) false).run Try.prog W = .ok (.int .i64 (cnt L x.kind x.a : Int)) W ∧
      (Instr.mapEntry 43 (.map (some mb)) (.agg #[.int .i64 x.kind, .int .i64 x.a])).run Try.prog W = .ok (.tuple #[.int .i64 (cnt L x.kind x.a : Int), goInt st]) W1 ∧
      (Instr.lookup 43 (.map (some mb)) (.agg #[.int .i64 x.kind, .int .i64 x.a]) false).run Try.prog W1 = .ok (.int .i64 (cnt L x.kind x.a : Int)) W1 ∧
      (Instr.entryStore 43 (.map (some mb)) (goInt st) (.int .i64 ((cnt L x.kind x.a : Int) + 1))).run Try.prog W1 = .ok () W2 ∧
      Past W2 mb (L ++ [x]) ∧ W.mapTurned W2 mb := by
  have hl1 := h.look wk wa
  obtain ⟨D, m, hown, hm, hat⟩ := h
  have hown0 := hown
  obtain ⟨es, clock, hb, F, hs, hD⟩ := hown
  have hkey := keyL_of wk wa
  have hcl := cnt_le L x.kind x.a
  obtain ⟨v0, st, es1, clock1, hE, hlk, hU⟩ := entry_look lawName Try.underlying43 zeroInt hb F hkey
  obtain ⟨v0', st', es1', clock1', hE', _, hS⟩ := entry_then_store lawName0 Try.underlying43 zeroInt hb F hkey
  rw [hE] at hE'
  injection hE' with hv hw
  rw [hl1] at hlk
  injection hlk with hv0 _
  subst hv0
  simp at hv
  obtain ⟨rfl, hst⟩ := hv
  have wf1 : ∀ n : Nat, n ≤ 1048576 → (Lit.int .i64 (n : Int)).wf = true := fun n hn => wfW ⟨by omega, by omega⟩
  obtain ⟨W1', hr1, ho1, _⟩ := hown0.store lawName Try.underlying43 (by unfold maxLen; omega) hkey (plainElem_int Try.underlying3 (wf1 (cnt L x.kind x.a) (by omega)))
  rw [hU] at hr1
  injection hr1 with _ hw1
  subst hw1
  obtain ⟨c, hlk1, hat1, _⟩ := ho1.lookup_int lawName Try.underlying43 Try.underlying3 (zeroInt _) hkey
  rw [atKey_put_same hown0.isMap (by exact trivial)] at hat1
  simp at hat1
  rw [← hat1] at hlk1
  have hb1 : (setBlock W mb (.map es1 clock1)).heap[mb]? = some (.map es1' clock1') := by rw [hw]; exact heap_setBlock_same hb _
  obtain ⟨es2, clock2, hr2, hu2⟩ := hS (setBlock W mb (.map es1 clock1)) (.int .i64 ((cnt L x.kind x.a : Int) + 1)) hb1
  obtain ⟨W2', hr3, ho3, ht3⟩ := hown0.store lawName Try.underlying43 (by unfold maxLen; omega) hkey (plainElem_int Try.underlying3 (show (Lit.int .i64 ((cnt L x.kind x.a : Int) + 1)).wf = true from wfW ⟨by omega, by omega⟩))
  rw [hu2] at hr3
  injection hr3 with _ hw3
  subst hw3
  refine ⟨st, setBlock W mb (.map es1 clock1), setBlock W mb (.map es2 clock2), hl1, hE, hlk1, ?_, ⟨_, m + 1, ho3, by rw [List.length_append]; simp; omega, ?_⟩, ht3⟩
  · have e : st = st' := by simp [goInt] at hst; omega
    rw [e, hr2]
    simp [setBlock]
  · intro k i hk hi
    rw [cnt_snoc]
    by_cases hki : x.kind = k ∧ x.a = i
    · obtain ⟨rfl, rfl⟩ := hki
      rw [if_pos ⟨hx, rfl, rfl⟩, atKey_put_same hown0.isMap (by exact trivial)]
      simp
    · rw [if_neg (fun h => hki h.2), atKey_put_other (fun e => hki (by obtain ⟨h1, h2⟩ := keyL_inj hk hi wk wa e; exact ⟨h1.symm, h2.symm⟩))]
      exact hat k i hk hi
end Gr
end Go.Proofs.Ytdaafledkloegaa

/-
  The document's call May of chapter 15.
-/
namespace Go.Proofs.Ytdaafledkloegaa
open Go.RowKit
set_option linter.unusedSimpArgs false
set_option linter.unusedVariables false
namespace Gr
open Ev (Evt EvIn hasB validB command closing zero fields Evs AtE evC evV W64)

def mvV (vb : Bool) (i : Nat) (xi xt xk xa yt yk : Int) (nb : Bool) : Bool :=
  if vb = false ∨ xi ≠ (i : Int) + 1 ∨ (xk = 1 ∧ i ≠ 0) ∨ (xk ≠ 1 ∧ i = 0) then false
  else if i = 0 then true
  else if xt < yt ∨ closing yk = true ∨ (xk = 2 ∧ xa ≠ (i : Int)) then false
  else if (command xk = true ∧ ¬ (xk = 16 ∧ xa = -4)) ∧ ((yk ≠ 2 ∧ command yk = false) ∨ xt ≠ yt) then false
  else nb
theorem closing_two : closing 2 = false := rfl
theorem may_val (H : List Evt) (i : Nat) : mayB H i = mvV (validB (ev H i)) i (ev H i).id (ev H i).time (ev H i).kind (ev H i).a (ev H (i - 1)).time (ev H (i - 1)).kind (namesB H i) := rfl

set_option maxRecDepth 100000 in
set_option maxHeartbeats 16000000 in
theorem mayR_any (hv : Value) (H : List Evt) (i : Nat) (w : World) (hE : Evs w.heap.size w hv H) (hi : i < H.length) (hl : H.length ≤ 1048576) :
    Calls Try.prog 18 #[hv, .int .i64 (i : Int)] w fun e w' => e = .returned (.bool (mayB H i)) ∧ Below w.heap.size w w' := by
  have HV := Lib.hid (may_val H i)
  have HVR := Lib.hid (fun W => Ev.validR_any (ev H i) W)
  have HC1 := Lib.hid (fun W => Ev.commandR_any (ev H i).kind W)
  have HC2 := Lib.hid (fun W => Ev.commandR_any (ev H (i - 1)).kind W)
  have HCL := Lib.hid (fun W => Ev.closingR_any (ev H (i - 1)).kind W)
  have HNM := Lib.hid (fun W (hb : Below w.heap.size w W) => namesR_any hv H i W (hE.grow hb hb.size) hi hl)
  obtain ⟨a, cap, b, off, rfl, ha, hc⟩ := hE
  obtain ⟨rfl, hbl⟩ := ha (by omega)
  have hAX := hc i hi
  rw [← ev_at hi] at hAX
  have hAY := hc (i - 1) (by omega)
  rw [← ev_at (show i - 1 < H.length by omega)] at hAY
  have HAY := Lib.hid (fun W (hb : Below w.heap.size w W) => hAY.below hb hbl)
  have hi1 : (0 : Int) ≤ (i : Int) ∧ (i : Int) < (H.length : Int) := by omega
  have e0 := hAX 0 (by decide)
  have e1 := hAX 1 (by decide)
  have e2 := hAX 2 (by decide)
  have e3 := hAX 3 (by decide)
  have e4 := hAX 4 (by decide)
  have e5 := hAX 5 (by decide)
  have e6 := hAX 6 (by decide)
  have e7 := hAX 7 (by decide)
  have e8 := hAX 8 (by decide)
  clear hAX hAY hc ha
  have hcx : ∀ k, command k = command k := fun _ => rfl
  generalize ev H i = x at *
  generalize ev H (i - 1) = y at *
  generalize hj : i - 1 = j at *
  generalize hvb : validB x = vb at *
  obtain ⟨xi, xt, xk, xa, xb, xc, xd, xe, xf⟩ := x
  obtain ⟨yi, yt, yk, ya, yb, yc, yd, ye, yf⟩ := y
  unfold evV at HVR
  unfold evC at e0 e1 e2 e3 e4 e5 e6 e7 e8
  simp only [List.getElem?_cons_zero, List.getElem?_cons_succ, Nat.add_zero] at e0 e1 e2 e3 e4 e5 e6 e7 e8
  simp only at HV HVR HC1 HC2 HCL
  clear hvb hcx
  generalize namesB H i = nb at *
  generalize mayB H i = mb at *
  have oX := Ob.Obj.new w 41 [.int .i64 xi, .int .i64 xt, .int .i64 xk, .int .i64 xa, .int .i64 xb, .int .i64 xc, .int .i64 xd, .int .i64 xe, .int .i64 xf]
  obtain ⟨wx, hwx⟩ : ∃ wx, w.alloc (.cells #[.int .i64 xi, .int .i64 xt, .int .i64 xk, .int .i64 xa, .int .i64 xb, .int .i64 xc, .int .i64 xd, .int .i64 xe, .int .i64 xf] 41) = wx := ⟨_, rfl⟩
  have hA : Below w.heap.size w wx := by rw [← hwx]; exact (Below.refl _ _).alloc (Nat.le_refl _) _
  rw [show w.alloc (.cells ([.int .i64 xi, .int .i64 xt, .int .i64 xk, .int .i64 xa, .int .i64 xb, .int .i64 xc, .int .i64 xd, .int .i64 xe, .int .i64 xf] : List Value).toArray 41) = wx from hwx] at oX
  have c0 := oX.cell 0
  have c1 := oX.cell 1
  have c2 := oX.cell 2
  have c3 := oX.cell 3
  have c4 := oX.cell 4
  have c5 := oX.cell 5
  have c6 := oX.cell 6
  have c7 := oX.cell 7
  have c8 := oX.cell 8
  have hxl := oX.lt
  simp at c0 c1 c2 c3 c4 c5 c6 c7 c8
  cases vb with
  | false =>
    have HV2 := Lib.hid (show mb = false from by rw [HV.out]; unfold mvV; simp [])
    clear HV
    (try clear h5)
    (try clear h6)
    (try clear h7)
    (try clear h8)
    (try clear h9)
    go_enter Try.func18, Try.ntmps18
    go_wp2_with (first
      | (go_at_call 26; (with_reducible refine (HVR.out _).mono ?_); rintro e w2 ⟨rfl, hb2⟩; have hB2 := hA.trans (hb2.mono hA.size); have oX2 := oX.below hb2; have x0 := oX2.cell 0; have x1 := oX2.cell 1; have x2 := oX2.cell 2; have x3 := oX2.cell 3; have x4 := oX2.cell 4; have x5 := oX2.cell 5; have x6 := oX2.cell 6; have x7 := oX2.cell 7; have x8 := oX2.cell 8; simp at x0 x1 x2 x3 x4 x5 x6 x7 x8; have hAY2 := HAY.out _ hB2; have y0 := hAY2 0 (by decide); have y1 := hAY2 1 (by decide); have y2 := hAY2 2 (by decide); have y3 := hAY2 3 (by decide); have y4 := hAY2 4 (by decide); have y5 := hAY2 5 (by decide); have y6 := hAY2 6 (by decide); have y7 := hAY2 7 (by decide); have y8 := hAY2 8 (by decide); unfold evC at y0 y1 y2 y3 y4 y5 y6 y7 y8; simp only [List.getElem?_cons_zero, List.getElem?_cons_succ, Nat.add_zero] at y0 y1 y2 y3 y4 y5 y6 y7 y8; clear hAY2; have oY2 := Ob.Obj.new w2 41 [.int .i64 yi, .int .i64 yt, .int .i64 yk, .int .i64 ya, .int .i64 yb, .int .i64 yc, .int .i64 yd, .int .i64 ye, .int .i64 yf]; have oX3 := oX2.alloc (.cells #[.int .i64 yi, .int .i64 yt, .int .i64 yk, .int .i64 ya, .int .i64 yb, .int .i64 yc, .int .i64 yd, .int .i64 ye, .int .i64 yf] 41); have z0 := oY2.cell 0; have u0 := oX3.cell 0; have z1 := oY2.cell 1; have u1 := oX3.cell 1; have z2 := oY2.cell 2; have u2 := oX3.cell 2; have z3 := oY2.cell 3; have u3 := oX3.cell 3; simp at z0 u0 z1 u1 z2 u2 z3 u3; have hB3 := hB2.alloc hB2.size (.cells #[.int .i64 yi, .int .i64 yt, .int .i64 yk, .int .i64 ya, .int .i64 yb, .int .i64 yc, .int .i64 yd, .int .i64 ye, .int .i64 yf] 41))
      | (go_at_call 23; (with_reducible refine (HCL.out _).mono ?_); rintro e w4 ⟨rfl, rfl⟩)
      | (go_at_call 27; (with_reducible refine (HC1.out _).mono ?_); rintro e w4 ⟨rfl, rfl⟩)
      | (go_at_call 27; (with_reducible refine (HC2.out _).mono ?_); rintro e w4 ⟨rfl, rfl⟩)
      | (go_at_call 28; (with_reducible refine (HNM.out _ hB3).mono ?_); rintro e w5 ⟨rfl, hb5⟩; have hB5 := hB3.trans (hb5.mono hB3.size)))
    all_goals go_ret
    all_goals exact ⟨by rw [HV2.out]; rfl, hB2⟩
  | true =>
    have hwi : IntKind.i64.wrap ((i : Int) + 1) = (i : Int) + 1 := by rw [IntKind.wrap_i64]; omega
    by_cases h1 : xi = (i : Int) + 1
    · subst h1
      by_cases h0 : i = 0
      · have n1 : ((i : Int) == 0) = true := by simp [h0]
        have n2 : ((i : Int) != 0) = false := by simp [h0]
        have H0 := Lib.hid h0
        clear hj h0
        by_cases h2 : xk = 1
        · subst h2
          have HV2 := Lib.hid (show mb = true from by rw [HV.out]; unfold mvV; simp [H0.out])
          clear HV
          (try clear h5)
          (try clear h6)
          (try clear h7)
          (try clear h8)
          (try clear h9)
          go_enter Try.func18, Try.ntmps18
          go_wp2_with (first
      | (go_at_call 26; (with_reducible refine (HVR.out _).mono ?_); rintro e w2 ⟨rfl, hb2⟩; have hB2 := hA.trans (hb2.mono hA.size); have oX2 := oX.below hb2; have x0 := oX2.cell 0; have x1 := oX2.cell 1; have x2 := oX2.cell 2; have x3 := oX2.cell 3; have x4 := oX2.cell 4; have x5 := oX2.cell 5; have x6 := oX2.cell 6; have x7 := oX2.cell 7; have x8 := oX2.cell 8; simp at x0 x1 x2 x3 x4 x5 x6 x7 x8; have hAY2 := HAY.out _ hB2; have y0 := hAY2 0 (by decide); have y1 := hAY2 1 (by decide); have y2 := hAY2 2 (by decide); have y3 := hAY2 3 (by decide); have y4 := hAY2 4 (by decide); have y5 := hAY2 5 (by decide); have y6 := hAY2 6 (by decide); have y7 := hAY2 7 (by decide); have y8 := hAY2 8 (by decide); unfold evC at y0 y1 y2 y3 y4 y5 y6 y7 y8; simp only [List.getElem?_cons_zero, List.getElem?_cons_succ, Nat.add_zero] at y0 y1 y2 y3 y4 y5 y6 y7 y8; clear hAY2; have oY2 := Ob.Obj.new w2 41 [.int .i64 yi, .int .i64 yt, .int .i64 yk, .int .i64 ya, .int .i64 yb, .int .i64 yc, .int .i64 yd, .int .i64 ye, .int .i64 yf]; have oX3 := oX2.alloc (.cells #[.int .i64 yi, .int .i64 yt, .int .i64 yk, .int .i64 ya, .int .i64 yb, .int .i64 yc, .int .i64 yd, .int .i64 ye, .int .i64 yf] 41); have z0 := oY2.cell 0; have u0 := oX3.cell 0; have z1 := oY2.cell 1; have u1 := oX3.cell 1; have z2 := oY2.cell 2; have u2 := oX3.cell 2; have z3 := oY2.cell 3; have u3 := oX3.cell 3; simp at z0 u0 z1 u1 z2 u2 z3 u3; have hB3 := hB2.alloc hB2.size (.cells #[.int .i64 yi, .int .i64 yt, .int .i64 yk, .int .i64 ya, .int .i64 yb, .int .i64 yc, .int .i64 yd, .int .i64 ye, .int .i64 yf] 41))
      | (go_at_call 23; (with_reducible refine (HCL.out _).mono ?_); rintro e w4 ⟨rfl, rfl⟩)
      | (go_at_call 27; (with_reducible refine (HC1.out _).mono ?_); rintro e w4 ⟨rfl, rfl⟩)
      | (go_at_call 27; (with_reducible refine (HC2.out _).mono ?_); rintro e w4 ⟨rfl, rfl⟩)
      | (go_at_call 28; (with_reducible refine (HNM.out _ hB3).mono ?_); rintro e w5 ⟨rfl, hb5⟩; have hB5 := hB3.trans (hb5.mono hB3.size)))
          all_goals go_ret
          all_goals exact ⟨by rw [HV2.out]; rfl, hB2⟩
        · have k1 : (xk == 1) = false := by simpa using h2
          have k1' : (xk != 1) = true := by simpa using h2
          have HV2 := Lib.hid (show mb = false from by rw [HV.out]; unfold mvV; simp [H0.out, h2])
          clear HV
          (try clear h5)
          (try clear h6)
          (try clear h7)
          (try clear h8)
          (try clear h9)
          go_enter Try.func18, Try.ntmps18
          go_wp2_with (first
      | (go_at_call 26; (with_reducible refine (HVR.out _).mono ?_); rintro e w2 ⟨rfl, hb2⟩; have hB2 := hA.trans (hb2.mono hA.size); have oX2 := oX.below hb2; have x0 := oX2.cell 0; have x1 := oX2.cell 1; have x2 := oX2.cell 2; have x3 := oX2.cell 3; have x4 := oX2.cell 4; have x5 := oX2.cell 5; have x6 := oX2.cell 6; have x7 := oX2.cell 7; have x8 := oX2.cell 8; simp at x0 x1 x2 x3 x4 x5 x6 x7 x8; have hAY2 := HAY.out _ hB2; have y0 := hAY2 0 (by decide); have y1 := hAY2 1 (by decide); have y2 := hAY2 2 (by decide); have y3 := hAY2 3 (by decide); have y4 := hAY2 4 (by decide); have y5 := hAY2 5 (by decide); have y6 := hAY2 6 (by decide); have y7 := hAY2 7 (by decide); have y8 := hAY2 8 (by decide); unfold evC at y0 y1 y2 y3 y4 y5 y6 y7 y8; simp only [List.getElem?_cons_zero, List.getElem?_cons_succ, Nat.add_zero] at y0 y1 y2 y3 y4 y5 y6 y7 y8; clear hAY2; have oY2 := Ob.Obj.new w2 41 [.int .i64 yi, .int .i64 yt, .int .i64 yk, .int .i64 ya, .int .i64 yb, .int .i64 yc, .int .i64 yd, .int .i64 ye, .int .i64 yf]; have oX3 := oX2.alloc (.cells #[.int .i64 yi, .int .i64 yt, .int .i64 yk, .int .i64 ya, .int .i64 yb, .int .i64 yc, .int .i64 yd, .int .i64 ye, .int .i64 yf] 41); have z0 := oY2.cell 0; have u0 := oX3.cell 0; have z1 := oY2.cell 1; have u1 := oX3.cell 1; have z2 := oY2.cell 2; have u2 := oX3.cell 2; have z3 := oY2.cell 3; have u3 := oX3.cell 3; simp at z0 u0 z1 u1 z2 u2 z3 u3; have hB3 := hB2.alloc hB2.size (.cells #[.int .i64 yi, .int .i64 yt, .int .i64 yk, .int .i64 ya, .int .i64 yb, .int .i64 yc, .int .i64 yd, .int .i64 ye, .int .i64 yf] 41))
      | (go_at_call 23; (with_reducible refine (HCL.out _).mono ?_); rintro e w4 ⟨rfl, rfl⟩)
      | (go_at_call 27; (with_reducible refine (HC1.out _).mono ?_); rintro e w4 ⟨rfl, rfl⟩)
      | (go_at_call 27; (with_reducible refine (HC2.out _).mono ?_); rintro e w4 ⟨rfl, rfl⟩)
      | (go_at_call 28; (with_reducible refine (HNM.out _ hB3).mono ?_); rintro e w5 ⟨rfl, hb5⟩; have hB5 := hB3.trans (hb5.mono hB3.size)))
          all_goals go_ret
          all_goals exact ⟨by rw [HV2.out]; rfl, hB2⟩
      · have n1 : ((i : Int) == 0) = false := beq_eq_false_iff_ne.2 (by omega)
        have n2 : ((i : Int) != 0) = true := by simp; omega
        have hwj : IntKind.i64.wrap ((i : Int) - 1) = (j : Int) := by rw [IntKind.wrap_i64]; omega
        have hi2 : (0 : Int) ≤ (j : Int) ∧ (j : Int) < (H.length : Int) := by omega
        have H0 := Lib.hid h0
        clear hj h0
        by_cases h2 : xk = 1
        · subst h2
          have HV2 := Lib.hid (show mb = false from by rw [HV.out]; unfold mvV; simp [H0.out])
          clear HV
          (try clear h5)
          (try clear h6)
          (try clear h7)
          (try clear h8)
          (try clear h9)
          go_enter Try.func18, Try.ntmps18
          go_wp2_with (first
      | (go_at_call 26; (with_reducible refine (HVR.out _).mono ?_); rintro e w2 ⟨rfl, hb2⟩; have hB2 := hA.trans (hb2.mono hA.size); have oX2 := oX.below hb2; have x0 := oX2.cell 0; have x1 := oX2.cell 1; have x2 := oX2.cell 2; have x3 := oX2.cell 3; have x4 := oX2.cell 4; have x5 := oX2.cell 5; have x6 := oX2.cell 6; have x7 := oX2.cell 7; have x8 := oX2.cell 8; simp at x0 x1 x2 x3 x4 x5 x6 x7 x8; have hAY2 := HAY.out _ hB2; have y0 := hAY2 0 (by decide); have y1 := hAY2 1 (by decide); have y2 := hAY2 2 (by decide); have y3 := hAY2 3 (by decide); have y4 := hAY2 4 (by decide); have y5 := hAY2 5 (by decide); have y6 := hAY2 6 (by decide); have y7 := hAY2 7 (by decide); have y8 := hAY2 8 (by decide); unfold evC at y0 y1 y2 y3 y4 y5 y6 y7 y8; simp only [List.getElem?_cons_zero, List.getElem?_cons_succ, Nat.add_zero] at y0 y1 y2 y3 y4 y5 y6 y7 y8; clear hAY2; have oY2 := Ob.Obj.new w2 41 [.int .i64 yi, .int .i64 yt, .int .i64 yk, .int .i64 ya, .int .i64 yb, .int .i64 yc, .int .i64 yd, .int .i64 ye, .int .i64 yf]; have oX3 := oX2.alloc (.cells #[.int .i64 yi, .int .i64 yt, .int .i64 yk, .int .i64 ya, .int .i64 yb, .int .i64 yc, .int .i64 yd, .int .i64 ye, .int .i64 yf] 41); have z0 := oY2.cell 0; have u0 := oX3.cell 0; have z1 := oY2.cell 1; have u1 := oX3.cell 1; have z2 := oY2.cell 2; have u2 := oX3.cell 2; have z3 := oY2.cell 3; have u3 := oX3.cell 3; simp at z0 u0 z1 u1 z2 u2 z3 u3; have hB3 := hB2.alloc hB2.size (.cells #[.int .i64 yi, .int .i64 yt, .int .i64 yk, .int .i64 ya, .int .i64 yb, .int .i64 yc, .int .i64 yd, .int .i64 ye, .int .i64 yf] 41))
      | (go_at_call 23; (with_reducible refine (HCL.out _).mono ?_); rintro e w4 ⟨rfl, rfl⟩)
      | (go_at_call 27; (with_reducible refine (HC1.out _).mono ?_); rintro e w4 ⟨rfl, rfl⟩)
      | (go_at_call 27; (with_reducible refine (HC2.out _).mono ?_); rintro e w4 ⟨rfl, rfl⟩)
      | (go_at_call 28; (with_reducible refine (HNM.out _ hB3).mono ?_); rintro e w5 ⟨rfl, hb5⟩; have hB5 := hB3.trans (hb5.mono hB3.size)))
          all_goals go_ret
          all_goals exact ⟨by rw [HV2.out]; rfl, hB2⟩
        · have k1 : (xk == 1) = false := by simpa using h2
          have k1' : (xk != 1) = true := by simpa using h2
          by_cases h3 : xt < yt
          ·
            have HV2 := Lib.hid (show mb = false from by rw [HV.out]; unfold mvV; simp [H0.out, h2, h3])
            clear HV
            (try clear h5)
            (try clear h6)
            (try clear h7)
            (try clear h8)
            (try clear h9)
            go_enter Try.func18, Try.ntmps18
            go_wp2_with (first
      | (go_at_call 26; (with_reducible refine (HVR.out _).mono ?_); rintro e w2 ⟨rfl, hb2⟩; have hB2 := hA.trans (hb2.mono hA.size); have oX2 := oX.below hb2; have x0 := oX2.cell 0; have x1 := oX2.cell 1; have x2 := oX2.cell 2; have x3 := oX2.cell 3; have x4 := oX2.cell 4; have x5 := oX2.cell 5; have x6 := oX2.cell 6; have x7 := oX2.cell 7; have x8 := oX2.cell 8; simp at x0 x1 x2 x3 x4 x5 x6 x7 x8; have hAY2 := HAY.out _ hB2; have y0 := hAY2 0 (by decide); have y1 := hAY2 1 (by decide); have y2 := hAY2 2 (by decide); have y3 := hAY2 3 (by decide); have y4 := hAY2 4 (by decide); have y5 := hAY2 5 (by decide); have y6 := hAY2 6 (by decide); have y7 := hAY2 7 (by decide); have y8 := hAY2 8 (by decide); unfold evC at y0 y1 y2 y3 y4 y5 y6 y7 y8; simp only [List.getElem?_cons_zero, List.getElem?_cons_succ, Nat.add_zero] at y0 y1 y2 y3 y4 y5 y6 y7 y8; clear hAY2; have oY2 := Ob.Obj.new w2 41 [.int .i64 yi, .int .i64 yt, .int .i64 yk, .int .i64 ya, .int .i64 yb, .int .i64 yc, .int .i64 yd, .int .i64 ye, .int .i64 yf]; have oX3 := oX2.alloc (.cells #[.int .i64 yi, .int .i64 yt, .int .i64 yk, .int .i64 ya, .int .i64 yb, .int .i64 yc, .int .i64 yd, .int .i64 ye, .int .i64 yf] 41); have z0 := oY2.cell 0; have u0 := oX3.cell 0; have z1 := oY2.cell 1; have u1 := oX3.cell 1; have z2 := oY2.cell 2; have u2 := oX3.cell 2; have z3 := oY2.cell 3; have u3 := oX3.cell 3; simp at z0 u0 z1 u1 z2 u2 z3 u3; have hB3 := hB2.alloc hB2.size (.cells #[.int .i64 yi, .int .i64 yt, .int .i64 yk, .int .i64 ya, .int .i64 yb, .int .i64 yc, .int .i64 yd, .int .i64 ye, .int .i64 yf] 41))
      | (go_at_call 23; (with_reducible refine (HCL.out _).mono ?_); rintro e w4 ⟨rfl, rfl⟩)
      | (go_at_call 27; (with_reducible refine (HC1.out _).mono ?_); rintro e w4 ⟨rfl, rfl⟩)
      | (go_at_call 27; (with_reducible refine (HC2.out _).mono ?_); rintro e w4 ⟨rfl, rfl⟩)
      | (go_at_call 28; (with_reducible refine (HNM.out _ hB3).mono ?_); rintro e w5 ⟨rfl, hb5⟩; have hB5 := hB3.trans (hb5.mono hB3.size)))
            all_goals go_ret
            all_goals exact ⟨by rw [HV2.out]; rfl, hB3⟩
          · generalize hcl : closing yk = cl at *
            cases cl with
            | true =>
              have HV2 := Lib.hid (show mb = false from by rw [HV.out]; unfold mvV; simp [H0.out, h2, h3, hcl])
              clear HV
              (try clear h5)
              (try clear h6)
              (try clear h7)
              (try clear h8)
              (try clear h9)
              go_enter Try.func18, Try.ntmps18
              go_wp2_with (first
      | (go_at_call 26; (with_reducible refine (HVR.out _).mono ?_); rintro e w2 ⟨rfl, hb2⟩; have hB2 := hA.trans (hb2.mono hA.size); have oX2 := oX.below hb2; have x0 := oX2.cell 0; have x1 := oX2.cell 1; have x2 := oX2.cell 2; have x3 := oX2.cell 3; have x4 := oX2.cell 4; have x5 := oX2.cell 5; have x6 := oX2.cell 6; have x7 := oX2.cell 7; have x8 := oX2.cell 8; simp at x0 x1 x2 x3 x4 x5 x6 x7 x8; have hAY2 := HAY.out _ hB2; have y0 := hAY2 0 (by decide); have y1 := hAY2 1 (by decide); have y2 := hAY2 2 (by decide); have y3 := hAY2 3 (by decide); have y4 := hAY2 4 (by decide); have y5 := hAY2 5 (by decide); have y6 := hAY2 6 (by decide); have y7 := hAY2 7 (by decide); have y8 := hAY2 8 (by decide); unfold evC at y0 y1 y2 y3 y4 y5 y6 y7 y8; simp only [List.getElem?_cons_zero, List.getElem?_cons_succ, Nat.add_zero] at y0 y1 y2 y3 y4 y5 y6 y7 y8; clear hAY2; have oY2 := Ob.Obj.new w2 41 [.int .i64 yi, .int .i64 yt, .int .i64 yk, .int .i64 ya, .int .i64 yb, .int .i64 yc, .int .i64 yd, .int .i64 ye, .int .i64 yf]; have oX3 := oX2.alloc (.cells #[.int .i64 yi, .int .i64 yt, .int .i64 yk, .int .i64 ya, .int .i64 yb, .int .i64 yc, .int .i64 yd, .int .i64 ye, .int .i64 yf] 41); have z0 := oY2.cell 0; have u0 := oX3.cell 0; have z1 := oY2.cell 1; have u1 := oX3.cell 1; have z2 := oY2.cell 2; have u2 := oX3.cell 2; have z3 := oY2.cell 3; have u3 := oX3.cell 3; simp at z0 u0 z1 u1 z2 u2 z3 u3; have hB3 := hB2.alloc hB2.size (.cells #[.int .i64 yi, .int .i64 yt, .int .i64 yk, .int .i64 ya, .int .i64 yb, .int .i64 yc, .int .i64 yd, .int .i64 ye, .int .i64 yf] 41))
      | (go_at_call 23; (with_reducible refine (HCL.out _).mono ?_); rintro e w4 ⟨rfl, rfl⟩)
      | (go_at_call 27; (with_reducible refine (HC1.out _).mono ?_); rintro e w4 ⟨rfl, rfl⟩)
      | (go_at_call 27; (with_reducible refine (HC2.out _).mono ?_); rintro e w4 ⟨rfl, rfl⟩)
      | (go_at_call 28; (with_reducible refine (HNM.out _ hB3).mono ?_); rintro e w5 ⟨rfl, hb5⟩; have hB5 := hB3.trans (hb5.mono hB3.size)))
              all_goals go_ret
              all_goals exact ⟨by rw [HV2.out]; rfl, hB3⟩
            | false =>
              by_cases h4 : xk = 2
              · subst h4
                by_cases h5 : xa = (i : Int)
                · have k5 : (xa != (i : Int)) = false := by simp [h5]
                  have hc2 : command 2 = false := rfl
                  rw [hc2] at HC1
                  have HV2 := Lib.hid (show mb = nb from by rw [HV.out]; unfold mvV; simp [H0.out, h3, hcl, h5, hc2])
                  clear HV
                  (try clear h5)
                  (try clear h6)
                  (try clear h7)
                  (try clear h8)
                  (try clear h9)
                  go_enter Try.func18, Try.ntmps18
                  go_wp2_with (first
      | (go_at_call 26; (with_reducible refine (HVR.out _).mono ?_); rintro e w2 ⟨rfl, hb2⟩; have hB2 := hA.trans (hb2.mono hA.size); have oX2 := oX.below hb2; have x0 := oX2.cell 0; have x1 := oX2.cell 1; have x2 := oX2.cell 2; have x3 := oX2.cell 3; have x4 := oX2.cell 4; have x5 := oX2.cell 5; have x6 := oX2.cell 6; have x7 := oX2.cell 7; have x8 := oX2.cell 8; simp at x0 x1 x2 x3 x4 x5 x6 x7 x8; have hAY2 := HAY.out _ hB2; have y0 := hAY2 0 (by decide); have y1 := hAY2 1 (by decide); have y2 := hAY2 2 (by decide); have y3 := hAY2 3 (by decide); have y4 := hAY2 4 (by decide); have y5 := hAY2 5 (by decide); have y6 := hAY2 6 (by decide); have y7 := hAY2 7 (by decide); have y8 := hAY2 8 (by decide); unfold evC at y0 y1 y2 y3 y4 y5 y6 y7 y8; simp only [List.getElem?_cons_zero, List.getElem?_cons_succ, Nat.add_zero] at y0 y1 y2 y3 y4 y5 y6 y7 y8; clear hAY2; have oY2 := Ob.Obj.new w2 41 [.int .i64 yi, .int .i64 yt, .int .i64 yk, .int .i64 ya, .int .i64 yb, .int .i64 yc, .int .i64 yd, .int .i64 ye, .int .i64 yf]; have oX3 := oX2.alloc (.cells #[.int .i64 yi, .int .i64 yt, .int .i64 yk, .int .i64 ya, .int .i64 yb, .int .i64 yc, .int .i64 yd, .int .i64 ye, .int .i64 yf] 41); have z0 := oY2.cell 0; have u0 := oX3.cell 0; have z1 := oY2.cell 1; have u1 := oX3.cell 1; have z2 := oY2.cell 2; have u2 := oX3.cell 2; have z3 := oY2.cell 3; have u3 := oX3.cell 3; simp at z0 u0 z1 u1 z2 u2 z3 u3; have hB3 := hB2.alloc hB2.size (.cells #[.int .i64 yi, .int .i64 yt, .int .i64 yk, .int .i64 ya, .int .i64 yb, .int .i64 yc, .int .i64 yd, .int .i64 ye, .int .i64 yf] 41))
      | (go_at_call 23; (with_reducible refine (HCL.out _).mono ?_); rintro e w4 ⟨rfl, rfl⟩)
      | (go_at_call 27; (with_reducible refine (HC1.out _).mono ?_); rintro e w4 ⟨rfl, rfl⟩)
      | (go_at_call 27; (with_reducible refine (HC2.out _).mono ?_); rintro e w4 ⟨rfl, rfl⟩)
      | (go_at_call 28; (with_reducible refine (HNM.out _ hB3).mono ?_); rintro e w5 ⟨rfl, hb5⟩; have hB5 := hB3.trans (hb5.mono hB3.size)))
                  all_goals go_ret
                  all_goals exact ⟨by rw [HV2.out]; rfl, hB5⟩
                · have k5 : (xa != (i : Int)) = true := by simpa using h5
                  have HV2 := Lib.hid (show mb = false from by rw [HV.out]; unfold mvV; simp [H0.out, h3, hcl, h5])
                  clear HV
                  (try clear h5)
                  (try clear h6)
                  (try clear h7)
                  (try clear h8)
                  (try clear h9)
                  go_enter Try.func18, Try.ntmps18
                  go_wp2_with (first
      | (go_at_call 26; (with_reducible refine (HVR.out _).mono ?_); rintro e w2 ⟨rfl, hb2⟩; have hB2 := hA.trans (hb2.mono hA.size); have oX2 := oX.below hb2; have x0 := oX2.cell 0; have x1 := oX2.cell 1; have x2 := oX2.cell 2; have x3 := oX2.cell 3; have x4 := oX2.cell 4; have x5 := oX2.cell 5; have x6 := oX2.cell 6; have x7 := oX2.cell 7; have x8 := oX2.cell 8; simp at x0 x1 x2 x3 x4 x5 x6 x7 x8; have hAY2 := HAY.out _ hB2; have y0 := hAY2 0 (by decide); have y1 := hAY2 1 (by decide); have y2 := hAY2 2 (by decide); have y3 := hAY2 3 (by decide); have y4 := hAY2 4 (by decide); have y5 := hAY2 5 (by decide); have y6 := hAY2 6 (by decide); have y7 := hAY2 7 (by decide); have y8 := hAY2 8 (by decide); unfold evC at y0 y1 y2 y3 y4 y5 y6 y7 y8; simp only [List.getElem?_cons_zero, List.getElem?_cons_succ, Nat.add_zero] at y0 y1 y2 y3 y4 y5 y6 y7 y8; clear hAY2; have oY2 := Ob.Obj.new w2 41 [.int .i64 yi, .int .i64 yt, .int .i64 yk, .int .i64 ya, .int .i64 yb, .int .i64 yc, .int .i64 yd, .int .i64 ye, .int .i64 yf]; have oX3 := oX2.alloc (.cells #[.int .i64 yi, .int .i64 yt, .int .i64 yk, .int .i64 ya, .int .i64 yb, .int .i64 yc, .int .i64 yd, .int .i64 ye, .int .i64 yf] 41); have z0 := oY2.cell 0; have u0 := oX3.cell 0; have z1 := oY2.cell 1; have u1 := oX3.cell 1; have z2 := oY2.cell 2; have u2 := oX3.cell 2; have z3 := oY2.cell 3; have u3 := oX3.cell 3; simp at z0 u0 z1 u1 z2 u2 z3 u3; have hB3 := hB2.alloc hB2.size (.cells #[.int .i64 yi, .int .i64 yt, .int .i64 yk, .int .i64 ya, .int .i64 yb, .int .i64 yc, .int .i64 yd, .int .i64 ye, .int .i64 yf] 41))
      | (go_at_call 23; (with_reducible refine (HCL.out _).mono ?_); rintro e w4 ⟨rfl, rfl⟩)
      | (go_at_call 27; (with_reducible refine (HC1.out _).mono ?_); rintro e w4 ⟨rfl, rfl⟩)
      | (go_at_call 27; (with_reducible refine (HC2.out _).mono ?_); rintro e w4 ⟨rfl, rfl⟩)
      | (go_at_call 28; (with_reducible refine (HNM.out _ hB3).mono ?_); rintro e w5 ⟨rfl, hb5⟩; have hB5 := hB3.trans (hb5.mono hB3.size)))
                  all_goals go_ret
                  all_goals exact ⟨by rw [HV2.out]; rfl, hB3⟩
              · have k4 : (xk == 2) = false := by simpa using h4
                generalize hcx : command xk = cx at *
                generalize hcy : command yk = cy at *
                cases cx with
                | false =>
                  have HV2 := Lib.hid (show mb = nb from by rw [HV.out]; unfold mvV; simp [H0.out, h2, h3, hcl, h4, hcx])
                  clear HV
                  (try clear h5)
                  (try clear h6)
                  (try clear h7)
                  (try clear h8)
                  (try clear h9)
                  go_enter Try.func18, Try.ntmps18
                  go_wp2_with (first
      | (go_at_call 26; (with_reducible refine (HVR.out _).mono ?_); rintro e w2 ⟨rfl, hb2⟩; have hB2 := hA.trans (hb2.mono hA.size); have oX2 := oX.below hb2; have x0 := oX2.cell 0; have x1 := oX2.cell 1; have x2 := oX2.cell 2; have x3 := oX2.cell 3; have x4 := oX2.cell 4; have x5 := oX2.cell 5; have x6 := oX2.cell 6; have x7 := oX2.cell 7; have x8 := oX2.cell 8; simp at x0 x1 x2 x3 x4 x5 x6 x7 x8; have hAY2 := HAY.out _ hB2; have y0 := hAY2 0 (by decide); have y1 := hAY2 1 (by decide); have y2 := hAY2 2 (by decide); have y3 := hAY2 3 (by decide); have y4 := hAY2 4 (by decide); have y5 := hAY2 5 (by decide); have y6 := hAY2 6 (by decide); have y7 := hAY2 7 (by decide); have y8 := hAY2 8 (by decide); unfold evC at y0 y1 y2 y3 y4 y5 y6 y7 y8; simp only [List.getElem?_cons_zero, List.getElem?_cons_succ, Nat.add_zero] at y0 y1 y2 y3 y4 y5 y6 y7 y8; clear hAY2; have oY2 := Ob.Obj.new w2 41 [.int .i64 yi, .int .i64 yt, .int .i64 yk, .int .i64 ya, .int .i64 yb, .int .i64 yc, .int .i64 yd, .int .i64 ye, .int .i64 yf]; have oX3 := oX2.alloc (.cells #[.int .i64 yi, .int .i64 yt, .int .i64 yk, .int .i64 ya, .int .i64 yb, .int .i64 yc, .int .i64 yd, .int .i64 ye, .int .i64 yf] 41); have z0 := oY2.cell 0; have u0 := oX3.cell 0; have z1 := oY2.cell 1; have u1 := oX3.cell 1; have z2 := oY2.cell 2; have u2 := oX3.cell 2; have z3 := oY2.cell 3; have u3 := oX3.cell 3; simp at z0 u0 z1 u1 z2 u2 z3 u3; have hB3 := hB2.alloc hB2.size (.cells #[.int .i64 yi, .int .i64 yt, .int .i64 yk, .int .i64 ya, .int .i64 yb, .int .i64 yc, .int .i64 yd, .int .i64 ye, .int .i64 yf] 41))
      | (go_at_call 23; (with_reducible refine (HCL.out _).mono ?_); rintro e w4 ⟨rfl, rfl⟩)
      | (go_at_call 27; (with_reducible refine (HC1.out _).mono ?_); rintro e w4 ⟨rfl, rfl⟩)
      | (go_at_call 27; (with_reducible refine (HC2.out _).mono ?_); rintro e w4 ⟨rfl, rfl⟩)
      | (go_at_call 28; (with_reducible refine (HNM.out _ hB3).mono ?_); rintro e w5 ⟨rfl, hb5⟩; have hB5 := hB3.trans (hb5.mono hB3.size)))
                  all_goals go_ret
                  all_goals exact ⟨by rw [HV2.out]; rfl, hB5⟩
                | true =>
                  by_cases h6 : xk = 16 ∧ xa = -4
                  · obtain ⟨h6, h7⟩ := h6
                    have k6 : (xk == 16) = true := by simpa using h6
                    have k7 : (xa == -4) = true := by simpa using h7
                    have HV2 := Lib.hid (show mb = nb from by rw [HV.out]; unfold mvV; simp [H0.out, h2, h3, hcl, h4, hcx, h6, h7])
                    clear HV
                    (try clear h5)
                    (try clear h6)
                    (try clear h7)
                    (try clear h8)
                    (try clear h9)
                    go_enter Try.func18, Try.ntmps18
                    go_wp2_with (first
      | (go_at_call 26; (with_reducible refine (HVR.out _).mono ?_); rintro e w2 ⟨rfl, hb2⟩; have hB2 := hA.trans (hb2.mono hA.size); have oX2 := oX.below hb2; have x0 := oX2.cell 0; have x1 := oX2.cell 1; have x2 := oX2.cell 2; have x3 := oX2.cell 3; have x4 := oX2.cell 4; have x5 := oX2.cell 5; have x6 := oX2.cell 6; have x7 := oX2.cell 7; have x8 := oX2.cell 8; simp at x0 x1 x2 x3 x4 x5 x6 x7 x8; have hAY2 := HAY.out _ hB2; have y0 := hAY2 0 (by decide); have y1 := hAY2 1 (by decide); have y2 := hAY2 2 (by decide); have y3 := hAY2 3 (by decide); have y4 := hAY2 4 (by decide); have y5 := hAY2 5 (by decide); have y6 := hAY2 6 (by decide); have y7 := hAY2 7 (by decide); have y8 := hAY2 8 (by decide); unfold evC at y0 y1 y2 y3 y4 y5 y6 y7 y8; simp only [List.getElem?_cons_zero, List.getElem?_cons_succ, Nat.add_zero] at y0 y1 y2 y3 y4 y5 y6 y7 y8; clear hAY2; have oY2 := Ob.Obj.new w2 41 [.int .i64 yi, .int .i64 yt, .int .i64 yk, .int .i64 ya, .int .i64 yb, .int .i64 yc, .int .i64 yd, .int .i64 ye, .int .i64 yf]; have oX3 := oX2.alloc (.cells #[.int .i64 yi, .int .i64 yt, .int .i64 yk, .int .i64 ya, .int .i64 yb, .int .i64 yc, .int .i64 yd, .int .i64 ye, .int .i64 yf] 41); have z0 := oY2.cell 0; have u0 := oX3.cell 0; have z1 := oY2.cell 1; have u1 := oX3.cell 1; have z2 := oY2.cell 2; have u2 := oX3.cell 2; have z3 := oY2.cell 3; have u3 := oX3.cell 3; simp at z0 u0 z1 u1 z2 u2 z3 u3; have hB3 := hB2.alloc hB2.size (.cells #[.int .i64 yi, .int .i64 yt, .int .i64 yk, .int .i64 ya, .int .i64 yb, .int .i64 yc, .int .i64 yd, .int .i64 ye, .int .i64 yf] 41))
      | (go_at_call 23; (with_reducible refine (HCL.out _).mono ?_); rintro e w4 ⟨rfl, rfl⟩)
      | (go_at_call 27; (with_reducible refine (HC1.out _).mono ?_); rintro e w4 ⟨rfl, rfl⟩)
      | (go_at_call 27; (with_reducible refine (HC2.out _).mono ?_); rintro e w4 ⟨rfl, rfl⟩)
      | (go_at_call 28; (with_reducible refine (HNM.out _ hB3).mono ?_); rintro e w5 ⟨rfl, hb5⟩; have hB5 := hB3.trans (hb5.mono hB3.size)))
                    all_goals go_ret
                    all_goals exact ⟨by rw [HV2.out]; rfl, hB5⟩
                  · have k67 : ((xk == 16) = false) ∨ ((xk == 16) = true ∧ (xa == -4) = false) := by
                      by_cases h7 : xk = 16
                      · exact .inr ⟨by simpa using h7, by simpa using fun h => h6 ⟨h7, h⟩⟩
                      · exact .inl (by simpa using h7)
                    by_cases h8 : xt = yt
                    · have k8 : (xt != yt) = false := by simpa using h8
                      by_cases h9 : yk = 2
                      · have k9 : (yk != 2) = false := by simpa using h9
                        rcases k67 with k6 | ⟨k6, k7⟩
                        all_goals
                          have HV2 := Lib.hid (show mb = nb from by rw [HV.out]; unfold mvV; simp [H0.out, h2, h3, hcl, h4, hcx, h6, h8, h9, closing_two])
                          clear HV
                          (try clear h5)
                          (try clear h6)
                          (try clear h7)
                          (try clear h8)
                          (try clear h9)
                          go_enter Try.func18, Try.ntmps18
                          go_wp2_with (first
      | (go_at_call 26; (with_reducible refine (HVR.out _).mono ?_); rintro e w2 ⟨rfl, hb2⟩; have hB2 := hA.trans (hb2.mono hA.size); have oX2 := oX.below hb2; have x0 := oX2.cell 0; have x1 := oX2.cell 1; have x2 := oX2.cell 2; have x3 := oX2.cell 3; have x4 := oX2.cell 4; have x5 := oX2.cell 5; have x6 := oX2.cell 6; have x7 := oX2.cell 7; have x8 := oX2.cell 8; simp at x0 x1 x2 x3 x4 x5 x6 x7 x8; have hAY2 := HAY.out _ hB2; have y0 := hAY2 0 (by decide); have y1 := hAY2 1 (by decide); have y2 := hAY2 2 (by decide); have y3 := hAY2 3 (by decide); have y4 := hAY2 4 (by decide); have y5 := hAY2 5 (by decide); have y6 := hAY2 6 (by decide); have y7 := hAY2 7 (by decide); have y8 := hAY2 8 (by decide); unfold evC at y0 y1 y2 y3 y4 y5 y6 y7 y8; simp only [List.getElem?_cons_zero, List.getElem?_cons_succ, Nat.add_zero] at y0 y1 y2 y3 y4 y5 y6 y7 y8; clear hAY2; have oY2 := Ob.Obj.new w2 41 [.int .i64 yi, .int .i64 yt, .int .i64 yk, .int .i64 ya, .int .i64 yb, .int .i64 yc, .int .i64 yd, .int .i64 ye, .int .i64 yf]; have oX3 := oX2.alloc (.cells #[.int .i64 yi, .int .i64 yt, .int .i64 yk, .int .i64 ya, .int .i64 yb, .int .i64 yc, .int .i64 yd, .int .i64 ye, .int .i64 yf] 41); have z0 := oY2.cell 0; have u0 := oX3.cell 0; have z1 := oY2.cell 1; have u1 := oX3.cell 1; have z2 := oY2.cell 2; have u2 := oX3.cell 2; have z3 := oY2.cell 3; have u3 := oX3.cell 3; simp at z0 u0 z1 u1 z2 u2 z3 u3; have hB3 := hB2.alloc hB2.size (.cells #[.int .i64 yi, .int .i64 yt, .int .i64 yk, .int .i64 ya, .int .i64 yb, .int .i64 yc, .int .i64 yd, .int .i64 ye, .int .i64 yf] 41))
      | (go_at_call 23; (with_reducible refine (HCL.out _).mono ?_); rintro e w4 ⟨rfl, rfl⟩)
      | (go_at_call 27; (with_reducible refine (HC1.out _).mono ?_); rintro e w4 ⟨rfl, rfl⟩)
      | (go_at_call 27; (with_reducible refine (HC2.out _).mono ?_); rintro e w4 ⟨rfl, rfl⟩)
      | (go_at_call 28; (with_reducible refine (HNM.out _ hB3).mono ?_); rintro e w5 ⟨rfl, hb5⟩; have hB5 := hB3.trans (hb5.mono hB3.size)))
                          all_goals go_ret
                          all_goals exact ⟨by rw [HV2.out]; rfl, hB5⟩
                      · have k9 : (yk != 2) = true := by simpa using h9
                        cases cy with
                        | true =>
                          rcases k67 with k6 | ⟨k6, k7⟩
                          all_goals
                            have HV2 := Lib.hid (show mb = nb from by rw [HV.out]; unfold mvV; simp [H0.out, h2, h3, hcl, h4, hcx, hcy, h6, h8, h9, closing_two])
                            clear HV
                            (try clear h5)
                            (try clear h6)
                            (try clear h7)
                            (try clear h8)
                            (try clear h9)
                            go_enter Try.func18, Try.ntmps18
                            go_wp2_with (first
      | (go_at_call 26; (with_reducible refine (HVR.out _).mono ?_); rintro e w2 ⟨rfl, hb2⟩; have hB2 := hA.trans (hb2.mono hA.size); have oX2 := oX.below hb2; have x0 := oX2.cell 0; have x1 := oX2.cell 1; have x2 := oX2.cell 2; have x3 := oX2.cell 3; have x4 := oX2.cell 4; have x5 := oX2.cell 5; have x6 := oX2.cell 6; have x7 := oX2.cell 7; have x8 := oX2.cell 8; simp at x0 x1 x2 x3 x4 x5 x6 x7 x8; have hAY2 := HAY.out _ hB2; have y0 := hAY2 0 (by decide); have y1 := hAY2 1 (by decide); have y2 := hAY2 2 (by decide); have y3 := hAY2 3 (by decide); have y4 := hAY2 4 (by decide); have y5 := hAY2 5 (by decide); have y6 := hAY2 6 (by decide); have y7 := hAY2 7 (by decide); have y8 := hAY2 8 (by decide); unfold evC at y0 y1 y2 y3 y4 y5 y6 y7 y8; simp only [List.getElem?_cons_zero, List.getElem?_cons_succ, Nat.add_zero] at y0 y1 y2 y3 y4 y5 y6 y7 y8; clear hAY2; have oY2 := Ob.Obj.new w2 41 [.int .i64 yi, .int .i64 yt, .int .i64 yk, .int .i64 ya, .int .i64 yb, .int .i64 yc, .int .i64 yd, .int .i64 ye, .int .i64 yf]; have oX3 := oX2.alloc (.cells #[.int .i64 yi, .int .i64 yt, .int .i64 yk, .int .i64 ya, .int .i64 yb, .int .i64 yc, .int .i64 yd, .int .i64 ye, .int .i64 yf] 41); have z0 := oY2.cell 0; have u0 := oX3.cell 0; have z1 := oY2.cell 1; have u1 := oX3.cell 1; have z2 := oY2.cell 2; have u2 := oX3.cell 2; have z3 := oY2.cell 3; have u3 := oX3.cell 3; simp at z0 u0 z1 u1 z2 u2 z3 u3; have hB3 := hB2.alloc hB2.size (.cells #[.int .i64 yi, .int .i64 yt, .int .i64 yk, .int .i64 ya, .int .i64 yb, .int .i64 yc, .int .i64 yd, .int .i64 ye, .int .i64 yf] 41))
      | (go_at_call 23; (with_reducible refine (HCL.out _).mono ?_); rintro e w4 ⟨rfl, rfl⟩)
      | (go_at_call 27; (with_reducible refine (HC1.out _).mono ?_); rintro e w4 ⟨rfl, rfl⟩)
      | (go_at_call 27; (with_reducible refine (HC2.out _).mono ?_); rintro e w4 ⟨rfl, rfl⟩)
      | (go_at_call 28; (with_reducible refine (HNM.out _ hB3).mono ?_); rintro e w5 ⟨rfl, hb5⟩; have hB5 := hB3.trans (hb5.mono hB3.size)))
                            all_goals go_ret
                            all_goals exact ⟨by rw [HV2.out]; rfl, hB5⟩
                        | false =>
                          rcases k67 with k6 | ⟨k6, k7⟩
                          all_goals
                            have HV2 := Lib.hid (show mb = false from by rw [HV.out]; unfold mvV; simp [H0.out, h2, h3, hcl, h4, hcx, hcy, h6, h8, h9, closing_two])
                            clear HV
                            (try clear h5)
                            (try clear h6)
                            (try clear h7)
                            (try clear h8)
                            (try clear h9)
                            go_enter Try.func18, Try.ntmps18
                            go_wp2_with (first
      | (go_at_call 26; (with_reducible refine (HVR.out _).mono ?_); rintro e w2 ⟨rfl, hb2⟩; have hB2 := hA.trans (hb2.mono hA.size); have oX2 := oX.below hb2; have x0 := oX2.cell 0; have x1 := oX2.cell 1; have x2 := oX2.cell 2; have x3 := oX2.cell 3; have x4 := oX2.cell 4; have x5 := oX2.cell 5; have x6 := oX2.cell 6; have x7 := oX2.cell 7; have x8 := oX2.cell 8; simp at x0 x1 x2 x3 x4 x5 x6 x7 x8; have hAY2 := HAY.out _ hB2; have y0 := hAY2 0 (by decide); have y1 := hAY2 1 (by decide); have y2 := hAY2 2 (by decide); have y3 := hAY2 3 (by decide); have y4 := hAY2 4 (by decide); have y5 := hAY2 5 (by decide); have y6 := hAY2 6 (by decide); have y7 := hAY2 7 (by decide); have y8 := hAY2 8 (by decide); unfold evC at y0 y1 y2 y3 y4 y5 y6 y7 y8; simp only [List.getElem?_cons_zero, List.getElem?_cons_succ, Nat.add_zero] at y0 y1 y2 y3 y4 y5 y6 y7 y8; clear hAY2; have oY2 := Ob.Obj.new w2 41 [.int .i64 yi, .int .i64 yt, .int .i64 yk, .int .i64 ya, .int .i64 yb, .int .i64 yc, .int .i64 yd, .int .i64 ye, .int .i64 yf]; have oX3 := oX2.alloc (.cells #[.int .i64 yi, .int .i64 yt, .int .i64 yk, .int .i64 ya, .int .i64 yb, .int .i64 yc, .int .i64 yd, .int .i64 ye, .int .i64 yf] 41); have z0 := oY2.cell 0; have u0 := oX3.cell 0; have z1 := oY2.cell 1; have u1 := oX3.cell 1; have z2 := oY2.cell 2; have u2 := oX3.cell 2; have z3 := oY2.cell 3; have u3 := oX3.cell 3; simp at z0 u0 z1 u1 z2 u2 z3 u3; have hB3 := hB2.alloc hB2.size (.cells #[.int .i64 yi, .int .i64 yt, .int .i64 yk, .int .i64 ya, .int .i64 yb, .int .i64 yc, .int .i64 yd, .int .i64 ye, .int .i64 yf] 41))
      | (go_at_call 23; (with_reducible refine (HCL.out _).mono ?_); rintro e w4 ⟨rfl, rfl⟩)
      | (go_at_call 27; (with_reducible refine (HC1.out _).mono ?_); rintro e w4 ⟨rfl, rfl⟩)
      | (go_at_call 27; (with_reducible refine (HC2.out _).mono ?_); rintro e w4 ⟨rfl, rfl⟩)
      | (go_at_call 28; (with_reducible refine (HNM.out _ hB3).mono ?_); rintro e w5 ⟨rfl, hb5⟩; have hB5 := hB3.trans (hb5.mono hB3.size)))
                            all_goals go_ret
                            all_goals exact ⟨by rw [HV2.out]; rfl, hB3⟩
                    · have k8 : (xt != yt) = true := by simpa using h8
                      rcases k67 with k6 | ⟨k6, k7⟩
                      all_goals
                        by_cases h9 : yk = 2
                        · have k9 : (yk != 2) = false := by simpa using h9
                          have HV2 := Lib.hid (show mb = false from by rw [HV.out]; unfold mvV; simp [H0.out, h2, h3, hcl, h4, hcx, h6, h8, h9, closing_two])
                          clear HV
                          (try clear h5)
                          (try clear h6)
                          (try clear h7)
                          (try clear h8)
                          (try clear h9)
                          go_enter Try.func18, Try.ntmps18
                          go_wp2_with (first
      | (go_at_call 26; (with_reducible refine (HVR.out _).mono ?_); rintro e w2 ⟨rfl, hb2⟩; have hB2 := hA.trans (hb2.mono hA.size); have oX2 := oX.below hb2; have x0 := oX2.cell 0; have x1 := oX2.cell 1; have x2 := oX2.cell 2; have x3 := oX2.cell 3; have x4 := oX2.cell 4; have x5 := oX2.cell 5; have x6 := oX2.cell 6; have x7 := oX2.cell 7; have x8 := oX2.cell 8; simp at x0 x1 x2 x3 x4 x5 x6 x7 x8; have hAY2 := HAY.out _ hB2; have y0 := hAY2 0 (by decide); have y1 := hAY2 1 (by decide); have y2 := hAY2 2 (by decide); have y3 := hAY2 3 (by decide); have y4 := hAY2 4 (by decide); have y5 := hAY2 5 (by decide); have y6 := hAY2 6 (by decide); have y7 := hAY2 7 (by decide); have y8 := hAY2 8 (by decide); unfold evC at y0 y1 y2 y3 y4 y5 y6 y7 y8; simp only [List.getElem?_cons_zero, List.getElem?_cons_succ, Nat.add_zero] at y0 y1 y2 y3 y4 y5 y6 y7 y8; clear hAY2; have oY2 := Ob.Obj.new w2 41 [.int .i64 yi, .int .i64 yt, .int .i64 yk, .int .i64 ya, .int .i64 yb, .int .i64 yc, .int .i64 yd, .int .i64 ye, .int .i64 yf]; have oX3 := oX2.alloc (.cells #[.int .i64 yi, .int .i64 yt, .int .i64 yk, .int .i64 ya, .int .i64 yb, .int .i64 yc, .int .i64 yd, .int .i64 ye, .int .i64 yf] 41); have z0 := oY2.cell 0; have u0 := oX3.cell 0; have z1 := oY2.cell 1; have u1 := oX3.cell 1; have z2 := oY2.cell 2; have u2 := oX3.cell 2; have z3 := oY2.cell 3; have u3 := oX3.cell 3; simp at z0 u0 z1 u1 z2 u2 z3 u3; have hB3 := hB2.alloc hB2.size (.cells #[.int .i64 yi, .int .i64 yt, .int .i64 yk, .int .i64 ya, .int .i64 yb, .int .i64 yc, .int .i64 yd, .int .i64 ye, .int .i64 yf] 41))
      | (go_at_call 23; (with_reducible refine (HCL.out _).mono ?_); rintro e w4 ⟨rfl, rfl⟩)
      | (go_at_call 27; (with_reducible refine (HC1.out _).mono ?_); rintro e w4 ⟨rfl, rfl⟩)
      | (go_at_call 27; (with_reducible refine (HC2.out _).mono ?_); rintro e w4 ⟨rfl, rfl⟩)
      | (go_at_call 28; (with_reducible refine (HNM.out _ hB3).mono ?_); rintro e w5 ⟨rfl, hb5⟩; have hB5 := hB3.trans (hb5.mono hB3.size)))
                          all_goals go_ret
                          all_goals exact ⟨by rw [HV2.out]; rfl, hB3⟩
                        · have k9 : (yk != 2) = true := by simpa using h9
                          cases cy
                          all_goals
                            have HV2 := Lib.hid (show mb = false from by rw [HV.out]; unfold mvV; simp [H0.out, h2, h3, hcl, h4, hcx, hcy, h6, h8, h9, closing_two])
                            clear HV
                            (try clear h5)
                            (try clear h6)
                            (try clear h7)
                            (try clear h8)
                            (try clear h9)
                            go_enter Try.func18, Try.ntmps18
                            go_wp2_with (first
      | (go_at_call 26; (with_reducible refine (HVR.out _).mono ?_); rintro e w2 ⟨rfl, hb2⟩; have hB2 := hA.trans (hb2.mono hA.size); have oX2 := oX.below hb2; have x0 := oX2.cell 0; have x1 := oX2.cell 1; have x2 := oX2.cell 2; have x3 := oX2.cell 3; have x4 := oX2.cell 4; have x5 := oX2.cell 5; have x6 := oX2.cell 6; have x7 := oX2.cell 7; have x8 := oX2.cell 8; simp at x0 x1 x2 x3 x4 x5 x6 x7 x8; have hAY2 := HAY.out _ hB2; have y0 := hAY2 0 (by decide); have y1 := hAY2 1 (by decide); have y2 := hAY2 2 (by decide); have y3 := hAY2 3 (by decide); have y4 := hAY2 4 (by decide); have y5 := hAY2 5 (by decide); have y6 := hAY2 6 (by decide); have y7 := hAY2 7 (by decide); have y8 := hAY2 8 (by decide); unfold evC at y0 y1 y2 y3 y4 y5 y6 y7 y8; simp only [List.getElem?_cons_zero, List.getElem?_cons_succ, Nat.add_zero] at y0 y1 y2 y3 y4 y5 y6 y7 y8; clear hAY2; have oY2 := Ob.Obj.new w2 41 [.int .i64 yi, .int .i64 yt, .int .i64 yk, .int .i64 ya, .int .i64 yb, .int .i64 yc, .int .i64 yd, .int .i64 ye, .int .i64 yf]; have oX3 := oX2.alloc (.cells #[.int .i64 yi, .int .i64 yt, .int .i64 yk, .int .i64 ya, .int .i64 yb, .int .i64 yc, .int .i64 yd, .int .i64 ye, .int .i64 yf] 41); have z0 := oY2.cell 0; have u0 := oX3.cell 0; have z1 := oY2.cell 1; have u1 := oX3.cell 1; have z2 := oY2.cell 2; have u2 := oX3.cell 2; have z3 := oY2.cell 3; have u3 := oX3.cell 3; simp at z0 u0 z1 u1 z2 u2 z3 u3; have hB3 := hB2.alloc hB2.size (.cells #[.int .i64 yi, .int .i64 yt, .int .i64 yk, .int .i64 ya, .int .i64 yb, .int .i64 yc, .int .i64 yd, .int .i64 ye, .int .i64 yf] 41))
      | (go_at_call 23; (with_reducible refine (HCL.out _).mono ?_); rintro e w4 ⟨rfl, rfl⟩)
      | (go_at_call 27; (with_reducible refine (HC1.out _).mono ?_); rintro e w4 ⟨rfl, rfl⟩)
      | (go_at_call 27; (with_reducible refine (HC2.out _).mono ?_); rintro e w4 ⟨rfl, rfl⟩)
      | (go_at_call 28; (with_reducible refine (HNM.out _ hB3).mono ?_); rintro e w5 ⟨rfl, hb5⟩; have hB5 := hB3.trans (hb5.mono hB3.size)))
                            all_goals go_ret
                            all_goals exact ⟨by rw [HV2.out]; rfl, hB3⟩
    · have k1 : (xi != (i : Int) + 1) = true := by simpa using h1
      have HV2 := Lib.hid (show mb = false from by rw [HV.out]; unfold mvV; simp [h1])
      clear HV
      (try clear h5)
      (try clear h6)
      (try clear h7)
      (try clear h8)
      (try clear h9)
      go_enter Try.func18, Try.ntmps18
      go_wp2_with (first
      | (go_at_call 26; (with_reducible refine (HVR.out _).mono ?_); rintro e w2 ⟨rfl, hb2⟩; have hB2 := hA.trans (hb2.mono hA.size); have oX2 := oX.below hb2; have x0 := oX2.cell 0; have x1 := oX2.cell 1; have x2 := oX2.cell 2; have x3 := oX2.cell 3; have x4 := oX2.cell 4; have x5 := oX2.cell 5; have x6 := oX2.cell 6; have x7 := oX2.cell 7; have x8 := oX2.cell 8; simp at x0 x1 x2 x3 x4 x5 x6 x7 x8; have hAY2 := HAY.out _ hB2; have y0 := hAY2 0 (by decide); have y1 := hAY2 1 (by decide); have y2 := hAY2 2 (by decide); have y3 := hAY2 3 (by decide); have y4 := hAY2 4 (by decide); have y5 := hAY2 5 (by decide); have y6 := hAY2 6 (by decide); have y7 := hAY2 7 (by decide); have y8 := hAY2 8 (by decide); unfold evC at y0 y1 y2 y3 y4 y5 y6 y7 y8; simp only [List.getElem?_cons_zero, List.getElem?_cons_succ, Nat.add_zero] at y0 y1 y2 y3 y4 y5 y6 y7 y8; clear hAY2; have oY2 := Ob.Obj.new w2 41 [.int .i64 yi, .int .i64 yt, .int .i64 yk, .int .i64 ya, .int .i64 yb, .int .i64 yc, .int .i64 yd, .int .i64 ye, .int .i64 yf]; have oX3 := oX2.alloc (.cells #[.int .i64 yi, .int .i64 yt, .int .i64 yk, .int .i64 ya, .int .i64 yb, .int .i64 yc, .int .i64 yd, .int .i64 ye, .int .i64 yf] 41); have z0 := oY2.cell 0; have u0 := oX3.cell 0; have z1 := oY2.cell 1; have u1 := oX3.cell 1; have z2 := oY2.cell 2; have u2 := oX3.cell 2; have z3 := oY2.cell 3; have u3 := oX3.cell 3; simp at z0 u0 z1 u1 z2 u2 z3 u3; have hB3 := hB2.alloc hB2.size (.cells #[.int .i64 yi, .int .i64 yt, .int .i64 yk, .int .i64 ya, .int .i64 yb, .int .i64 yc, .int .i64 yd, .int .i64 ye, .int .i64 yf] 41))
      | (go_at_call 23; (with_reducible refine (HCL.out _).mono ?_); rintro e w4 ⟨rfl, rfl⟩)
      | (go_at_call 27; (with_reducible refine (HC1.out _).mono ?_); rintro e w4 ⟨rfl, rfl⟩)
      | (go_at_call 27; (with_reducible refine (HC2.out _).mono ?_); rintro e w4 ⟨rfl, rfl⟩)
      | (go_at_call 28; (with_reducible refine (HNM.out _ hB3).mono ?_); rintro e w5 ⟨rfl, hb5⟩; have hB5 := hB3.trans (hb5.mono hB3.size)))
      all_goals go_ret
      all_goals exact ⟨by rw [HV2.out]; rfl, hB2⟩

end Gr
end Go.Proofs.Ytdaafledkloegaa

/-
  The document's calls Check and Close of chapter 15.
-/
namespace Go.Proofs.Ytdaafledkloegaa
open Go.RowKit
set_option linter.unusedSimpArgs false
set_option linter.unusedVariables false
namespace Gr
open Ev (Evt EvIn hasB validB command closing zero fields Evs AtE evC evV W64)

theorem check_isBad {H : List Evt} {q : Nat} (hq : q < H.length) (h1 : mayB H q = false) (h2 : ∀ j, j < q → mayB H j = true) : check H = (52, q) := by
  rcases check_cases H with h | ⟨k, h⟩
  · have := check_ok.1 (show (check H).1 = 0 by rw [h]) q hq
    rw [h1] at this; cases this
  · obtain ⟨h3, h4, h5⟩ := check_bad h
    rcases Nat.lt_trichotomy k q with e | e | e
    · rw [h2 k e] at h4; cases h4
    · rw [h, e]
    · rw [h5 q e] at h1; cases h1
theorem check_isOk {H : List Evt} (h2 : ∀ j, j < H.length → mayB H j = true) : check H = (0, 0) := by
  rcases check_cases H with h | ⟨k, h⟩
  · exact h
  · have := check_ok.2 h2
    rw [h] at this; cases this

set_option maxRecDepth 100000 in
set_option maxHeartbeats 4000000 in
theorem checkR_any (hv : Value) (H : List Evt) (w : World) (hE : Evs w.heap.size w hv H) (hl : H.length ≤ 1048576) :
    Calls Try.prog 9 #[hv] w fun e w' => e = .returned (.tuple #[.int .i64 ((check H).1 : Int), .int .i64 ((check H).2 : Int)]) ∧ Below w.heap.size w w' := by
  have HM := Lib.hid (fun q (hq : q < H.length) W (hb : Below w.heap.size w W) => mayR_any hv H q W (hE.grow hb hb.size) hq hl)
  have HBD := Lib.hid (fun q (hq : q < H.length) h1 h2 => check_isBad (H := H) (q := q) hq h1 h2)
  have HOK := Lib.hid (fun h2 => check_isOk (H := H) h2)
  have HMY := Lib.hid (fun q (h0 : ∀ j, j < q → mayB H j = true) (h : mayB H q = true) => show ∀ j, j < q + 1 → mayB H j = true from fun j hj => if e : j = q then e ▸ h else h0 j (by omega))
  obtain ⟨a, cap, b, off, rfl, -, -⟩ := hE
  go_enter Try.func9, Try.ntmps9
  go_wp2_with fail
  go_loopw [4] (fun i wr => ∃ q : Nat, q ≤ H.length ∧ i = .int .i64 (q : Int) ∧ Hid (∀ j, j < q → mayB H j = true) ∧ Below w.heap.size w wr) (fun i _ => H.length - (intOf i).toNat)
  case atStart => exact ⟨0, Nat.zero_le _, rfl, (fun j hj => absurd hj (by omega)), Below.refl _ _⟩
  case round =>
    obtain ⟨q, hq, rfl, hno, hB⟩ := hrel
    by_cases hlt : q < H.length
    · have hi1 : (q : Int) < (H.length : Int) := by omega
      have HM2 := Lib.hid (HM.out q hlt _ hB)
      have HB2 := Lib.hid (fun h => HBD.out q hlt h hno.out)
      have HG2 := Lib.hid (HMY.out q hno.out)
      clear hno HM HMY HBD HOK
      generalize mayB H q = mb at *
      cases mb with
      | false =>
        have hck := Lib.hid (HB2.out rfl)
        clear HB2 HG2
        go_wp2_with (go_at_call 18; (with_reducible refine HM2.out.mono ?_); rintro e w1 ⟨rfl, hb1⟩)
        refine bodyPost_ret (v := .tuple #[.int .i64 52, .int .i64 (q : Int)]) (by simp [results, Try.results9, go_sem]) rfl ?_
        exact ⟨by rw [hck.out]; rfl, hB.trans (hb1.mono hB.size)⟩
      | true =>
        have HG3 := Lib.hid (HG2.out rfl)
        clear HB2 HG2
        go_wp2_with (go_at_call 18; (with_reducible refine HM2.out.mono ?_); rintro e w1 ⟨rfl, hb1⟩)
        go_roundw
        case rel => exact ⟨q + 1, by omega, by go_num, HG3, hB.trans (hb1.mono hB.size)⟩
        case measure => simp [intOf]; omega
    · obtain rfl : q = H.length := by omega
      have hck := Lib.hid (HOK.out hno.out)
      clear hno
      go_wp2_with fail
      refine bodyPost_ret (v := .tuple #[.int .i64 0, .int .i64 0]) (by simp [results, Try.results9, go_sem]) rfl ?_
      exact ⟨by rw [hck.out]; rfl, hB⟩

set_option maxRecDepth 100000 in
set_option maxHeartbeats 4000000 in
theorem closeR_any (hv : Value) (H : List Evt) (w : World) (hE : Evs w.heap.size w hv H) (hl : H.length ≤ 1048576) :
    Calls Try.prog 14 #[hv] w fun e w' => e = .returned (.tuple #[.int .i64 (close H).1, .int .i64 ((close H).2 : Int)]) ∧ Below w.heap.size w w' := by
  have HCK := Lib.hid (checkR_any hv H w hE hl)
  have hcl := Lib.hid (show close H = if (check H).1 ≠ 0 then (0, 52) else if 0 < H.length ∧ closing (ev H (H.length - 1)).kind = true then ((H.length : Int) - 1, 0) else (-1, 0) from rfl)
  have HCL := Lib.hid (fun W => Ev.closingR_any (ev H (H.length - 1)).kind W)
  obtain ⟨a, cap, b, off, rfl, ha, hc⟩ := hE
  have HA := Lib.hid ha
  have HC := Lib.hid (fun j (hj : j < H.length) => show AtE w b (off + j * 9) (ev H j) from by rw [ev_at hj]; exact hc j hj)
  clear ha hc
  rcases check_cases H with h | ⟨k, h⟩
  · rw [h] at HCK hcl
    simp only [ne_eq, not_true_eq_false, if_false] at hcl
    by_cases h0 : 0 < H.length
    · obtain ⟨rfl, hbl⟩ := HA.out h0
      have hAT := HC.out (H.length - 1) (by omega)
      have hi1 : (0 : Int) < (H.length : Int) := by omega
      have hwj : IntKind.i64.wrap ((H.length : Int) - 1) = ((H.length - 1 : Nat) : Int) := by rw [IntKind.wrap_i64]; omega
      have hi2 : (0 : Int) ≤ ((H.length - 1 : Nat) : Int) ∧ ((H.length - 1 : Nat) : Int) < (H.length : Int) := by omega
      have hcl2 := Lib.hid (show close H = if closing (ev H (H.length - 1)).kind = true then (((H.length - 1 : Nat) : Int), 0) else (-1, 0) from by
        rw [hcl.out]; by_cases hc : closing (ev H (H.length - 1)).kind = true
        · rw [if_pos ⟨h0, hc⟩, if_pos hc]; congr 1; omega
        · rw [if_neg (fun h => hc h.2), if_neg hc])
      clear hcl HC HA
      generalize hj : H.length - 1 = j at *
      clear hj
      generalize ev H j = x at *
      obtain ⟨xi, xt, xk, xa, xb, xc, xd, xe, xf⟩ := x
      simp only at HCL hcl2
      have HAT := Lib.hid (fun W (hb : Below w.heap.size w W) => (hAT.below hb hbl) 2 (by decide))
      clear hAT
      generalize hcx : closing xk = cx at *
      clear hcx
      cases cx
      all_goals
        have hck := Lib.hid hcl2.out
        clear hcl2
        go_enter Try.func14, Try.ntmps14
        go_wp2_with (first
          | (go_at_call 9; (with_reducible refine HCK.out.mono ?_); rintro e w1 ⟨rfl, hb1⟩; have x2 := HAT.out _ hb1; unfold evC at x2; simp only [List.getElem?_cons_zero, List.getElem?_cons_succ, Nat.add_zero] at x2)
          | (go_at_call 23; (with_reducible refine (HCL.out _).mono ?_); rintro e w4 ⟨rfl, rfl⟩))
        all_goals go_ret2
        all_goals exact ⟨by rw [hck.out]; rfl, hb1⟩
    · have hck := Lib.hid (hcl.out.trans (if_neg (fun h => h0 h.1)))
      obtain rfl : H = [] := List.eq_nil_of_length_eq_zero (by omega)
      clear hcl HC HA h0 HCL
      simp only [List.length_nil] at *
      go_enter Try.func14, Try.ntmps14
      go_wp2_with (go_at_call 9; (with_reducible refine HCK.out.mono ?_); rintro e w1 ⟨rfl, hb1⟩)
      all_goals go_ret2
      all_goals exact ⟨by rw [hck.out]; rfl, hb1⟩
  · rw [h] at HCK hcl
    have hck := Lib.hid (show close H = (0, 52) from by rw [hcl.out]; rfl)
    clear hcl HC HA HCL
    go_enter Try.func14, Try.ntmps14
    go_wp2_with (go_at_call 9; (with_reducible refine HCK.out.mono ?_); rintro e w1 ⟨rfl, hb1⟩)
    all_goals go_ret2
    all_goals exact ⟨by rw [hck.out]; rfl, hb1⟩

end Gr
end Go.Proofs.Ytdaafledkloegaa

/-
  The document's call Open of chapter 15.
-/
namespace Go.Proofs.Ytdaafledkloegaa
open Go.RowKit
set_option linter.unusedSimpArgs false
set_option linter.unusedVariables false
namespace Gr
open Ev (Evt EvIn hasB validB command closing zero fields Evs AtE evC evV W64)

def iN (l : List Nat) : List Value := l.map fun (x : Nat) => .int .i64 (x : Int)
theorem iN_snoc (l : List Nat) (x : Nat) : iN (l ++ [x]) = iN l ++ [.int .i64 (x : Int)] := by simp [iN]
theorem openN_snoc (H : List Evt) (n : Nat) : openN H (n + 1) = openN H n ++ if openB H n = true then [n] else [] := by
  unfold openN
  rw [List.range_succ, List.filter_append]
  congr 1
  by_cases h : openB H n = true
  · simp [h]
  · simp [h]
theorem openN_len (H : List Evt) (n : Nat) : (openN H n).length ≤ n := by
  unfold openN
  exact Nat.le_trans (List.length_filter_le _ _) (by simp)
set_option maxRecDepth 100000 in
theorem infor_int : (Try.prog.info? 3).map (fun i => (i.zero, i.size, i.bytes)) = some (some (.int .i64 0), 1, 8) := by kernel_rfl
/-- what Open answers: its list lies in a row of its own -/
def OpnOut (H : List Evt) (w : World) (e : Ending) (w' : World) : Prop :=
  ∃ v, e = .returned (.tuple #[v, .int .i64 ((opn H).2 : Int)]) ∧ w'.ownsRow w.heap.size 3 1 v (opn H).1.length (iN (opn H).1) ∧ Below w.heap.size w w'

set_option maxRecDepth 100000 in
set_option maxHeartbeats 8000000 in
theorem openR_any (hv : Value) (H : List Evt) (w : World) (hE : Evs w.heap.size w hv H) (hl : H.length ≤ 1048576) :
    Calls Try.prog 12 #[hv] w (OpnOut H w) := by
  obtain ⟨i0, hi0, hz0, hz1, hz2⟩ := info_parts infor_int
  have HCK := Lib.hid (checkR_any hv H w hE hl)
  have hop := Lib.hid (show opn H = if (check H).1 ≠ 0 then ([], 52) else (openN H H.length, 0) from rfl)
  have HNM := Lib.hid (fun kv (q : Nat) ks B2 W (hb : Below w.heap.size w W) (hK : Fi.Ints B2 W kv ks) (hkl : ks.length ≤ 1048576) => namedR_any (B2 := B2) hv kv H H.length ((q : Int) + 1) ks W (hE.grow hb hb.size) hK (Nat.le_refl _) hl hkl)
  obtain ⟨a, cap, b, off, rfl, ha, hc⟩ := hE
  have HA := Lib.hid ha
  have HC := Lib.hid (fun j (hj : j < H.length) => show AtE w b (off + j * 9) (ev H j) from by rw [ev_at hj]; exact hc j hj)
  clear ha hc
  rcases check_cases H with h | ⟨k, h⟩
  · rw [h] at HCK hop
    have hck := Lib.hid (show opn H = (openN H H.length, 0) from hop.out)
    clear hop
    go_enter Try.func12, Try.ntmps12
    go_wp2_with (go_at_call 9; (with_reducible refine HCK.out.mono ?_); rintro e w1 ⟨rfl, hb1⟩)
    go_loopw [6, 7] (fun v i wr => ∃ q : Nat, q ≤ H.length ∧ i = .int .i64 (q : Int) ∧ wr.ownsRow w.heap.size 3 1 v (openN H q).length (iN (openN H q)) ∧ Below w.heap.size w wr) (fun _ i _ => H.length - (intOf i).toNat)
    case atStart => exact ⟨0, Nat.zero_le _, rfl, World.ownsRow_nil _ _ _ _, hb1⟩
    case round =>
      obtain ⟨q, hq, rfl, hown, hB⟩ := hrel
      obtain ⟨wo, rfl⟩ : ∃ wo : World, wo = wr := ⟨_, rfl⟩
      have hbs := hB.size
      by_cases hlt : q < H.length
      · obtain ⟨rfl, hbl⟩ := HA.out (by omega)
        have e2 := ((HC.out q hlt).below hB hbl) 2 (by decide)
        have hi1 : (0 : Int) ≤ (q : Int) ∧ (q : Int) < (H.length : Int) := by omega
        have hwi : IntKind.i64.wrap ((q : Int) + 1) = (q : Int) + 1 := by rw [IntKind.wrap_i64]; omega
        have hlen := openN_len H q
        have HSN := Lib.hid (openN_snoc H q)
        have hob : openB H q = (!(endsOf (ev H q).kind).isEmpty && !namedB H H.length ((q : Int) + 1) (endsOf (ev H q).kind)) := rfl
        have HN := Lib.hid (fun kv ks B2 W => HNM.out kv q ks B2 W)
        clear HC HA HNM HCK hck
        generalize ev H q = x at *
        obtain ⟨xi, xt, xk, xa, xb, xc, xd, xe, xf⟩ := x
        unfold evC at e2
        simp only [List.getElem?_cons_zero, List.getElem?_cons_succ, Nat.add_zero] at e2
        simp only at hob
        generalize openB H q = ob at *
        by_cases hk3 : xk = 3
        · subst hk3
          rw [show endsOf 3 = [6, 22, 23, 24] from rfl] at hob
          have o := Ob.Obj.new wo 3 [.int .i64 6, .int .i64 22, .int .i64 23, .int .i64 24]
          obtain ⟨wk, hwk⟩ : ∃ wk, wo.alloc (.cells #[.int .i64 6, .int .i64 22, .int .i64 23, .int .i64 24] 3) = wk := ⟨_, rfl⟩
          have hBk : Below w.heap.size w wk := by rw [← hwk]; exact hB.alloc hbs _
          have hownk := hown.alloc (.cells #[.int .i64 6, .int .i64 22, .int .i64 23, .int .i64 24] 3)
          rw [hwk] at hownk
          rw [show wo.alloc (.cells ([.int .i64 6, .int .i64 22, .int .i64 23, .int .i64 24] : List Value).toArray 3) = wk from hwk] at o
          have HN2 := Lib.hid (HN.out (.slice (some ⟨wo.heap.size, 0, none⟩) 4 4) [6, 22, 23, 24] _ wk hBk (ints_new (ks := [6, 22, 23, 24]) o) (by decide))
          have hks := hBk.size
          clear HN o hown
          generalize namedB H H.length ((q : Int) + 1) [6, 22, 23, 24] = nb at *
          cases nb with
          | true =>
            obtain rfl : ob = false := by rw [hob]; rfl
            rw [if_neg (by decide), List.append_nil] at HSN; clear hob
            go_wp2_with (go_at_call 21; (with_reducible refine HN2.out.mono ?_); rintro e w2 ⟨rfl, rfl⟩)
            go_roundw
            case rel => exact ⟨q + 1, by omega, by go_num, by rw [HSN.out]; exact hownk, hBk⟩
            case measure => simp [intOf]; omega
          | false =>
            obtain rfl : ob = true := by rw [hob]; rfl
            rw [if_pos rfl] at HSN; clear hob
            go_wp2_with (first
              | (go_at_call 21; (with_reducible refine HN2.out.mono ?_); rintro e w2 ⟨rfl, rfl⟩)
              | (at_builtin; refine wpList_append_own _ rfl _ _ 31 rfl w.heap.size 3 i0 (.int .i64 0) 1 8 Try.underlying31 hi0 hz0 hz1 hz2 rfl (by decide) _ _ _ rfl (hownk.alloc _) ⟨wk.heap.size, 0, none⟩ 1 1 [_] rfl rfl (cell_one_new _ _ _) (by simp [Value.oneCell']) (by unfold maxLen; omega) (by omega) (by simp; omega) ?_; intro v' w2 hown2 hgrow _))
            go_roundw
            case rel => exact ⟨q + 1, by omega, by go_num, by rw [HSN.out, iN_snoc, List.length_append, List.length_singleton]; exact hown2, (hBk.alloc hks _).grown hgrow (by simp; omega) (fun j hj => (Ob.row_lt hownk hj).1)⟩
            case measure => simp [intOf]; omega
        by_cases hk4 : xk = 4
        · subst hk4
          rw [show endsOf 4 = [7, 25] from rfl] at hob
          have o := Ob.Obj.new wo 3 [.int .i64 7, .int .i64 25]
          obtain ⟨wk, hwk⟩ : ∃ wk, wo.alloc (.cells #[.int .i64 7, .int .i64 25] 3) = wk := ⟨_, rfl⟩
          have hBk : Below w.heap.size w wk := by rw [← hwk]; exact hB.alloc hbs _
          have hownk := hown.alloc (.cells #[.int .i64 7, .int .i64 25] 3)
          rw [hwk] at hownk
          rw [show wo.alloc (.cells ([.int .i64 7, .int .i64 25] : List Value).toArray 3) = wk from hwk] at o
          have HN2 := Lib.hid (HN.out (.slice (some ⟨wo.heap.size, 0, none⟩) 2 2) [7, 25] _ wk hBk (ints_new (ks := [7, 25]) o) (by decide))
          have hks := hBk.size
          clear HN o hown
          generalize namedB H H.length ((q : Int) + 1) [7, 25] = nb at *
          cases nb with
          | true =>
            obtain rfl : ob = false := by rw [hob]; rfl
            rw [if_neg (by decide), List.append_nil] at HSN; clear hob
            go_wp2_with (go_at_call 21; (with_reducible refine HN2.out.mono ?_); rintro e w2 ⟨rfl, rfl⟩)
            go_roundw
            case rel => exact ⟨q + 1, by omega, by go_num, by rw [HSN.out]; exact hownk, hBk⟩
            case measure => simp [intOf]; omega
          | false =>
            obtain rfl : ob = true := by rw [hob]; rfl
            rw [if_pos rfl] at HSN; clear hob
            go_wp2_with (first
              | (go_at_call 21; (with_reducible refine HN2.out.mono ?_); rintro e w2 ⟨rfl, rfl⟩)
              | (at_builtin; refine wpList_append_own _ rfl _ _ 31 rfl w.heap.size 3 i0 (.int .i64 0) 1 8 Try.underlying31 hi0 hz0 hz1 hz2 rfl (by decide) _ _ _ rfl (hownk.alloc _) ⟨wk.heap.size, 0, none⟩ 1 1 [_] rfl rfl (cell_one_new _ _ _) (by simp [Value.oneCell']) (by unfold maxLen; omega) (by omega) (by simp; omega) ?_; intro v' w2 hown2 hgrow _))
            go_roundw
            case rel => exact ⟨q + 1, by omega, by go_num, by rw [HSN.out, iN_snoc, List.length_append, List.length_singleton]; exact hown2, (hBk.alloc hks _).grown hgrow (by simp; omega) (fun j hj => (Ob.row_lt hownk hj).1)⟩
            case measure => simp [intOf]; omega
        by_cases hk5 : xk = 5
        · subst hk5
          rw [show endsOf 5 = [27, 28] from rfl] at hob
          have o := Ob.Obj.new wo 3 [.int .i64 27, .int .i64 28]
          obtain ⟨wk, hwk⟩ : ∃ wk, wo.alloc (.cells #[.int .i64 27, .int .i64 28] 3) = wk := ⟨_, rfl⟩
          have hBk : Below w.heap.size w wk := by rw [← hwk]; exact hB.alloc hbs _
          have hownk := hown.alloc (.cells #[.int .i64 27, .int .i64 28] 3)
          rw [hwk] at hownk
          rw [show wo.alloc (.cells ([.int .i64 27, .int .i64 28] : List Value).toArray 3) = wk from hwk] at o
          have HN2 := Lib.hid (HN.out (.slice (some ⟨wo.heap.size, 0, none⟩) 2 2) [27, 28] _ wk hBk (ints_new (ks := [27, 28]) o) (by decide))
          have hks := hBk.size
          clear HN o hown
          generalize namedB H H.length ((q : Int) + 1) [27, 28] = nb at *
          cases nb with
          | true =>
            obtain rfl : ob = false := by rw [hob]; rfl
            rw [if_neg (by decide), List.append_nil] at HSN; clear hob
            go_wp2_with (go_at_call 21; (with_reducible refine HN2.out.mono ?_); rintro e w2 ⟨rfl, rfl⟩)
            go_roundw
            case rel => exact ⟨q + 1, by omega, by go_num, by rw [HSN.out]; exact hownk, hBk⟩
            case measure => simp [intOf]; omega
          | false =>
            obtain rfl : ob = true := by rw [hob]; rfl
            rw [if_pos rfl] at HSN; clear hob
            go_wp2_with (first
              | (go_at_call 21; (with_reducible refine HN2.out.mono ?_); rintro e w2 ⟨rfl, rfl⟩)
              | (at_builtin; refine wpList_append_own _ rfl _ _ 31 rfl w.heap.size 3 i0 (.int .i64 0) 1 8 Try.underlying31 hi0 hz0 hz1 hz2 rfl (by decide) _ _ _ rfl (hownk.alloc _) ⟨wk.heap.size, 0, none⟩ 1 1 [_] rfl rfl (cell_one_new _ _ _) (by simp [Value.oneCell']) (by unfold maxLen; omega) (by omega) (by simp; omega) ?_; intro v' w2 hown2 hgrow _))
            go_roundw
            case rel => exact ⟨q + 1, by omega, by go_num, by rw [HSN.out, iN_snoc, List.length_append, List.length_singleton]; exact hown2, (hBk.alloc hks _).grown hgrow (by simp; omega) (fun j hj => (Ob.row_lt hownk hj).1)⟩
            case measure => simp [intOf]; omega
        by_cases hk21 : xk = 21
        · subst hk21
          rw [show endsOf 21 = [13, 14] from rfl] at hob
          have o := Ob.Obj.new wo 3 [.int .i64 13, .int .i64 14]
          obtain ⟨wk, hwk⟩ : ∃ wk, wo.alloc (.cells #[.int .i64 13, .int .i64 14] 3) = wk := ⟨_, rfl⟩
          have hBk : Below w.heap.size w wk := by rw [← hwk]; exact hB.alloc hbs _
          have hownk := hown.alloc (.cells #[.int .i64 13, .int .i64 14] 3)
          rw [hwk] at hownk
          rw [show wo.alloc (.cells ([.int .i64 13, .int .i64 14] : List Value).toArray 3) = wk from hwk] at o
          have HN2 := Lib.hid (HN.out (.slice (some ⟨wo.heap.size, 0, none⟩) 2 2) [13, 14] _ wk hBk (ints_new (ks := [13, 14]) o) (by decide))
          have hks := hBk.size
          clear HN o hown
          generalize namedB H H.length ((q : Int) + 1) [13, 14] = nb at *
          cases nb with
          | true =>
            obtain rfl : ob = false := by rw [hob]; rfl
            rw [if_neg (by decide), List.append_nil] at HSN; clear hob
            go_wp2_with (go_at_call 21; (with_reducible refine HN2.out.mono ?_); rintro e w2 ⟨rfl, rfl⟩)
            go_roundw
            case rel => exact ⟨q + 1, by omega, by go_num, by rw [HSN.out]; exact hownk, hBk⟩
            case measure => simp [intOf]; omega
          | false =>
            obtain rfl : ob = true := by rw [hob]; rfl
            rw [if_pos rfl] at HSN; clear hob
            go_wp2_with (first
              | (go_at_call 21; (with_reducible refine HN2.out.mono ?_); rintro e w2 ⟨rfl, rfl⟩)
              | (at_builtin; refine wpList_append_own _ rfl _ _ 31 rfl w.heap.size 3 i0 (.int .i64 0) 1 8 Try.underlying31 hi0 hz0 hz1 hz2 rfl (by decide) _ _ _ rfl (hownk.alloc _) ⟨wk.heap.size, 0, none⟩ 1 1 [_] rfl rfl (cell_one_new _ _ _) (by simp [Value.oneCell']) (by unfold maxLen; omega) (by omega) (by simp; omega) ?_; intro v' w2 hown2 hgrow _))
            go_roundw
            case rel => exact ⟨q + 1, by omega, by go_num, by rw [HSN.out, iN_snoc, List.length_append, List.length_singleton]; exact hown2, (hBk.alloc hks _).grown hgrow (by simp; omega) (fun j hj => (Ob.row_lt hownk hj).1)⟩
            case measure => simp [intOf]; omega
        obtain rfl : ob = false := by rw [hob, show endsOf xk = [] from by unfold endsOf; simp [hk3, hk4, hk5, hk21]]; rfl
        rw [if_neg (by decide), List.append_nil] at HSN; clear hob
        have k3 : (xk == 3) = false := by simpa using hk3
        have k4 : (xk == 4) = false := by simpa using hk4
        have k5 : (xk == 5) = false := by simpa using hk5
        have k21 : (xk == 21) = false := by simpa using hk21
        clear HN hk3 hk4 hk5 hk21
        go_wp2_with fail
        go_roundw
        case rel => exact ⟨q + 1, by omega, by go_num, by rw [HSN.out]; exact hown, hB⟩
        case measure => simp [intOf]; omega
      · obtain rfl : q = H.length := by omega
        go_wp2_with fail
        obtain ⟨ao, cap2, rfl, _⟩ := Sq.row_cases hown
        refine bodyPost_ret (v := .tuple #[.slice ao (openN H H.length).length cap2, .int .i64 0]) (by simp [results, Try.results12, go_sem]) rfl ?_
        exact ⟨_, by rw [hck.out]; rfl, by rw [hck.out]; exact hown, hB⟩
  · rw [h] at HCK hop
    have hck := Lib.hid (show opn H = ([], 52) from by rw [hop.out]; rfl)
    clear hop HC HA HNM
    go_enter Try.func12, Try.ntmps12
    go_wp2_with (go_at_call 9; (with_reducible refine HCK.out.mono ?_); rintro e w1 ⟨rfl, hb1⟩)
    refine bodyPost_ret (v := .tuple #[.slice none 0 0, .int .i64 52]) (by simp [results, Try.results12, go_sem]) rfl ?_
    exact ⟨_, by rw [hck.out]; rfl, by rw [hck.out]; exact World.ownsRow_nil _ _ _ _, hb1⟩

end Gr
end Go.Proofs.Ytdaafledkloegaa

/-
  What the laws of chapter 15 ask of the program.
-/
namespace Go.Proofs.Ytdaafledkloegaa
open Go.RowKit
set_option linter.unusedSimpArgs false
set_option linter.unusedVariables false
namespace Gr
open Ev (Evt EvIn hasB validB command closing zero fields Evs AtE evC evV W64 ecs)

/-- a slice has room for what it holds -/
def Room (v : Value) : Prop := ∃ a n cap, v = .slice a n cap ∧ n ≤ cap
theorem room_self (a : Option Addr) (n : Nat) : Room (.slice a n n) := ⟨a, n, n, rfl, Nat.le_refl _⟩

def CheckOk : Prop := ∀ (hv : Value) (H : List Evt) (w : World), Room hv → Evs w.heap.size w hv H → (∀ x ∈ H, EvIn x) → H.length ≤ 1048576 →
  Calls Try.prog 8 #[hv] w fun e w' => e = .returned (.tuple #[.int .i64 ((check H).1 : Int), .int .i64 ((check H).2 : Int)]) ∧ Below w.heap.size w w'

def OpenOk : Prop := ∀ (hv : Value) (H : List Evt) (w : World), Room hv → Evs w.heap.size w hv H → (∀ x ∈ H, EvIn x) → H.length ≤ 1048576 →
  Calls Try.prog 11 #[hv] w (OpnOut H w)

def CloseOk : Prop := ∀ (hv : Value) (H : List Evt) (w : World), Room hv → Evs w.heap.size w hv H → (∀ x ∈ H, EvIn x) → H.length ≤ 1048576 →
  Calls Try.prog 13 #[hv] w fun e w' => e = .returned (.tuple #[.int .i64 (close H).1, .int .i64 ((close H).2 : Int)]) ∧ Below w.heap.size w w'

end Gr
end Go.Proofs.Ytdaafledkloegaa
