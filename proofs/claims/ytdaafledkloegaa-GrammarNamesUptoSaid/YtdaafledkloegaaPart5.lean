import Derived.Deep.RegionWith
import Derived.Test.YtdaafledkloegaaPart4
/-
  The program's mayName of chapter 15.
-/
namespace Go.Proofs.Ytdaafledkloegaa
open Go.RowKit
set_option linter.unusedSimpArgs false
set_option linter.unusedVariables false
namespace Gr
open Ev (Evt EvIn hasB validB command closing zero fields Evs AtE evC evV W64)

theorem frees_any (a : Option Addr) (n cap mb : Nat) (L : List Evt) (id : Int) (ks : List Int) (w0 w : World) (hP : Past w0 mb L) (hb : Below w0.heap.size w0 w) (hL : L.length ≤ 1048576) (hks : ks ≠ []) (hkl : ks.length ≤ 1048576)
    (hk : (ks.all fun k => decide (about k ≠ 0) && (decide (-1000 ≤ k) && decide (k ≤ 1000))) = true) (wi : W64 id) :
    Calls Try.prog 32 #[.agg #[.slice a n cap, .map (some mb)], .int .i64 id, .slice (some ⟨w.heap.size, 0, none⟩) ks.length ks.length] (w.alloc (.cells (ks.map fun x => .int .i64 x).toArray 3))
      fun e w' => e = .returned (.bool (!nmd L id ks)) ∧ Below w0.heap.size w0 w' := by
  have hA : Below w0.heap.size w0 (w.alloc (.cells (ks.map fun x => .int .i64 x).toArray 3)) := hb.alloc hb.size _
  refine (free_any (B := 0) a n cap mb L id _ ks _ (hP.grow hA) hL (ints_new (ks := ks) (Ob.Obj.new w 3 _)) hks hkl (about_ok hk) wi).mono ?_
  rintro e w2 ⟨rfl, hb2⟩
  exact ⟨rfl, hA.trans (hb2.mono hA.size)⟩

set_option maxRecDepth 100000 in
set_option maxHeartbeats 16000000 in
theorem name_any (a : Option Addr) (n cap mb : Nat) (L : List Evt) (x y : Evt) (w : World) (hP : Past w mb L) (hL : L.length ≤ 1048576) (hx : EvIn x) (hy : EvIn y) :
    Calls Try.prog 49 #[.agg #[.slice a n cap, .map (some mb)], evV x, evV y] w fun e w' => e = .returned (.bool (mnB L x y)) ∧ Below w.heap.size w w' := by
  have wi := hx.a
  clear hx
  have hA0 : Below w.heap.size w w := Below.refl _ _
  have HAW := Lib.hid (fun W (hb : Below w.heap.size w W) => awaits_any a n cap mb L y W (hP.grow hb) hL hy)
  have HHS := Lib.hid (fun k (hk : about k ≠ 0) (wk : W64 k) W (hb : Below w.heap.size w W) => has_any a n cap mb L x.a k W (hP.grow hb) hL hk wk wi)
  obtain ⟨xi, xt, xk, xa, xb, xc, xd, xe, xf⟩ := x
  obtain ⟨yi, yt, yk, ya, yb, yc, yd, ye, yf⟩ := y
  unfold evV at HAW ⊢
  simp only at HHS HAW wi ⊢
  obtain ⟨wx, hwx⟩ : ∃ wx, w.alloc (.cells #[.slice a n cap, .map (some mb)] 45) = wx := ⟨_, rfl⟩
  have oX := Ob.Obj.new w 45 [.slice a n cap, .map (some mb)]
  rw [show w.alloc (.cells ([.slice a n cap, .map (some mb)] : List Value).toArray 45) = wx from hwx] at oX
  have hA1 : Below w.heap.size w wx := by rw [← hwx]; exact hA0.alloc hA0.size _
  obtain ⟨wy, hwy⟩ : ∃ wy, wx.alloc (.cells #[.int .i64 xi, .int .i64 xt, .int .i64 xk, .int .i64 xa, .int .i64 xb, .int .i64 xc, .int .i64 xd, .int .i64 xe, .int .i64 xf] 41) = wy := ⟨_, rfl⟩
  have oY0 := Ob.Obj.new wx 41 [.int .i64 xi, .int .i64 xt, .int .i64 xk, .int .i64 xa, .int .i64 xb, .int .i64 xc, .int .i64 xd, .int .i64 xe, .int .i64 xf]
  rw [show wx.alloc (.cells ([.int .i64 xi, .int .i64 xt, .int .i64 xk, .int .i64 xa, .int .i64 xb, .int .i64 xc, .int .i64 xd, .int .i64 xe, .int .i64 xf] : List Value).toArray 41) = wy from hwy] at oY0
  have hA2 : Below w.heap.size w wy := by rw [← hwy]; exact hA1.alloc hA1.size _
  obtain ⟨wz, hwz⟩ : ∃ wz, wy.alloc (.cells #[.int .i64 yi, .int .i64 yt, .int .i64 yk, .int .i64 ya, .int .i64 yb, .int .i64 yc, .int .i64 yd, .int .i64 ye, .int .i64 yf] 41) = wz := ⟨_, rfl⟩
  have oZ := Ob.Obj.new wy 41 [.int .i64 yi, .int .i64 yt, .int .i64 yk, .int .i64 ya, .int .i64 yb, .int .i64 yc, .int .i64 yd, .int .i64 ye, .int .i64 yf]
  rw [show wy.alloc (.cells ([.int .i64 yi, .int .i64 yt, .int .i64 yk, .int .i64 ya, .int .i64 yb, .int .i64 yc, .int .i64 yd, .int .i64 ye, .int .i64 yf] : List Value).toArray 41) = wz from hwz] at oZ
  have hA3 : Below w.heap.size w wz := by rw [← hwz]; exact hA2.alloc hA2.size _
  have oX2 : Ob.Obj wz w.heap.size 45 [.slice a n cap, .map (some mb)] := by rw [← hwz, ← hwy]; exact (oX.alloc _).alloc _
  have oY : Ob.Obj wz wx.heap.size 41 [.int .i64 xi, .int .i64 xt, .int .i64 xk, .int .i64 xa, .int .i64 xb, .int .i64 xc, .int .i64 xd, .int .i64 xe, .int .i64 xf] := by rw [← hwz]; exact oY0.alloc _
  have F8 := Lib.hid (fun W (hb : Below wz.heap.size wz W) => show Calls Try.prog 32 #[.agg #[.slice a n cap, .map (some mb)], .int .i64 xa, .slice (some ⟨W.heap.size, 0, none⟩) 1 1] (W.alloc (.cells #[.int .i64 8] 3)) (fun e w' => e = .returned (.bool (!nmd L xa [8])) ∧ Below wz.heap.size wz w') from frees_any a n cap mb L xa [8] wz W (hP.grow hA3) hb hL (by simp) (by simp) (by decide) wi)
  have F26_27 := Lib.hid (fun W (hb : Below wz.heap.size wz W) => show Calls Try.prog 32 #[.agg #[.slice a n cap, .map (some mb)], .int .i64 xa, .slice (some ⟨W.heap.size, 0, none⟩) 2 2] (W.alloc (.cells #[.int .i64 26, .int .i64 27] 3)) (fun e w' => e = .returned (.bool (!nmd L xa [26, 27])) ∧ Below wz.heap.size wz w') from frees_any a n cap mb L xa [26, 27] wz W (hP.grow hA3) hb hL (by simp) (by simp) (by decide) wi)
  have F28 := Lib.hid (fun W (hb : Below wz.heap.size wz W) => show Calls Try.prog 32 #[.agg #[.slice a n cap, .map (some mb)], .int .i64 xa, .slice (some ⟨W.heap.size, 0, none⟩) 1 1] (W.alloc (.cells #[.int .i64 28] 3)) (fun e w' => e = .returned (.bool (!nmd L xa [28])) ∧ Below wz.heap.size wz w') from frees_any a n cap mb L xa [28] wz W (hP.grow hA3) hb hL (by simp) (by simp) (by decide) wi)
  have F29 := Lib.hid (fun W (hb : Below wz.heap.size wz W) => show Calls Try.prog 32 #[.agg #[.slice a n cap, .map (some mb)], .int .i64 xa, .slice (some ⟨W.heap.size, 0, none⟩) 1 1] (W.alloc (.cells #[.int .i64 29] 3)) (fun e w' => e = .returned (.bool (!nmd L xa [29])) ∧ Below wz.heap.size wz w') from frees_any a n cap mb L xa [29] wz W (hP.grow hA3) hb hL (by simp) (by simp) (by decide) wi)
  have F12_13 := Lib.hid (fun W (hb : Below wz.heap.size wz W) => show Calls Try.prog 32 #[.agg #[.slice a n cap, .map (some mb)], .int .i64 xa, .slice (some ⟨W.heap.size, 0, none⟩) 2 2] (W.alloc (.cells #[.int .i64 12, .int .i64 13] 3)) (fun e w' => e = .returned (.bool (!nmd L xa [12, 13])) ∧ Below wz.heap.size wz w') from frees_any a n cap mb L xa [12, 13] wz W (hP.grow hA3) hb hL (by simp) (by simp) (by decide) wi)
  have F14 := Lib.hid (fun W (hb : Below wz.heap.size wz W) => show Calls Try.prog 32 #[.agg #[.slice a n cap, .map (some mb)], .int .i64 xa, .slice (some ⟨W.heap.size, 0, none⟩) 1 1] (W.alloc (.cells #[.int .i64 14] 3)) (fun e w' => e = .returned (.bool (!nmd L xa [14])) ∧ Below wz.heap.size wz w') from frees_any a n cap mb L xa [14] wz W (hP.grow hA3) hb hL (by simp) (by simp) (by decide) wi)
  have x0 := oX2.cell 0
  have x1 := oX2.cell 1
  have y0 := oY.cell 0
  have y1 := oY.cell 1
  have y2 := oY.cell 2
  have y3 := oY.cell 3
  have y4 := oY.cell 4
  have y5 := oY.cell 5
  have y6 := oY.cell 6
  have y7 := oY.cell 7
  have y8 := oY.cell 8
  have z0 := oZ.cell 0
  have z1 := oZ.cell 1
  have z2 := oZ.cell 2
  have z3 := oZ.cell 3
  have z4 := oZ.cell 4
  have z5 := oZ.cell 5
  have z6 := oZ.cell 6
  have z7 := oZ.cell 7
  have z8 := oZ.cell 8
  have hxl := oX2.lt
  have hyl := oY.lt
  have hzl := oZ.lt
  simp at x0 x1 y0 y1 y2 y3 y4 y5 y6 y7 y8 z0 z1 z2 z3 z4 z5 z6 z7 z8
  have HA := Lib.hid hA3
  have hzs := hA3.size
  have HR := Lib.hid (Below.refl wz.heap.size wz)
  have HXB := Lib.hid (fun W (hb : Below wz.heap.size wz W) => oX2.below hb)
  have HYB := Lib.hid (fun W (hb : Below wz.heap.size wz W) => oY.below hb)
  have HZB := Lib.hid (fun W (hb : Below wz.heap.size wz W) => oZ.below hb)
  have HAZ := Lib.hid (HAW.out wz hA3)
  have H26 := Lib.hid (HHS.out 26 (by decide) W64.of wz hA3)
  have H12 := Lib.hid (HHS.out 12 (by decide) W64.of wz hA3)
  clear HAW HHS hA0 hA1 hA2 hA3 oX oX2 oY0 oY oZ hP hL hy
  by_cases hk6 : xk = 6
  · subst hk6
    have HV2 := Lib.hid (show mnB L ⟨xi, xt, 6, xa, xb, xc, xd, xe, xf⟩ ⟨yi, yt, yk, ya, yb, yc, yd, ye, yf⟩ = (awB L ⟨yi, yt, yk, ya, yb, yc, yd, ye, yf⟩) from by simp [mnB])
    clear F8 F26_27 F28 F29 F12_13 F14 H26 H12
    go_enter Try.func49, Try.ntmps49
    go_wp2_with ((go_at_call 20; (with_reducible refine HAZ.out.mono ?_); rintro e w5 ⟨rfl, hb5⟩; have oX5 := HXB.out w5 hb5; have oY5 := HYB.out w5 hb5; have oZ5 := HZB.out w5 hb5; have p0 := oX5.cell 0; have p1 := oX5.cell 1; have r0 := oY5.cell 0; have r1 := oY5.cell 1; have r2 := oY5.cell 2; have r3 := oY5.cell 3; have r4 := oY5.cell 4; have r5 := oY5.cell 5; have r6 := oY5.cell 6; have r7 := oY5.cell 7; have r8 := oY5.cell 8; have s0 := oZ5.cell 0; have s1 := oZ5.cell 1; have s2 := oZ5.cell 2; have s3 := oZ5.cell 3; have s4 := oZ5.cell 4; have s5 := oZ5.cell 5; have s6 := oZ5.cell 6; have s7 := oZ5.cell 7; have s8 := oZ5.cell 8; have hpl := oX5.lt; have hrl := oY5.lt; have hsl := oZ5.lt; simp at p0 p1 r0 r1 r2 r3 r4 r5 r6 r7 r8 s0 s1 s2 s3 s4 s5 s6 s7 s8; clear oX5 oY5 oZ5))
    all_goals go_ret
    all_goals exact ⟨by rw [HV2.out]; first | rfl | (simp; done), by first | exact HA.out.trans (hb6.mono hzs) | exact HA.out.trans (hb5.mono hzs)⟩
  by_cases hk22 : xk = 22
  · subst hk22
    have HV2 := Lib.hid (show mnB L ⟨xi, xt, 22, xa, xb, xc, xd, xe, xf⟩ ⟨yi, yt, yk, ya, yb, yc, yd, ye, yf⟩ = (awB L ⟨yi, yt, yk, ya, yb, yc, yd, ye, yf⟩) from by simp [mnB])
    clear F8 F26_27 F28 F29 F12_13 F14 H26 H12
    go_enter Try.func49, Try.ntmps49
    go_wp2_with ((go_at_call 20; (with_reducible refine HAZ.out.mono ?_); rintro e w5 ⟨rfl, hb5⟩; have oX5 := HXB.out w5 hb5; have oY5 := HYB.out w5 hb5; have oZ5 := HZB.out w5 hb5; have p0 := oX5.cell 0; have p1 := oX5.cell 1; have r0 := oY5.cell 0; have r1 := oY5.cell 1; have r2 := oY5.cell 2; have r3 := oY5.cell 3; have r4 := oY5.cell 4; have r5 := oY5.cell 5; have r6 := oY5.cell 6; have r7 := oY5.cell 7; have r8 := oY5.cell 8; have s0 := oZ5.cell 0; have s1 := oZ5.cell 1; have s2 := oZ5.cell 2; have s3 := oZ5.cell 3; have s4 := oZ5.cell 4; have s5 := oZ5.cell 5; have s6 := oZ5.cell 6; have s7 := oZ5.cell 7; have s8 := oZ5.cell 8; have hpl := oX5.lt; have hrl := oY5.lt; have hsl := oZ5.lt; simp at p0 p1 r0 r1 r2 r3 r4 r5 r6 r7 r8 s0 s1 s2 s3 s4 s5 s6 s7 s8; clear oX5 oY5 oZ5))
    all_goals go_ret
    all_goals exact ⟨by rw [HV2.out]; first | rfl | (simp; done), by first | exact HA.out.trans (hb6.mono hzs) | exact HA.out.trans (hb5.mono hzs)⟩
  by_cases hk23 : xk = 23
  · subst hk23
    have HV2 := Lib.hid (show mnB L ⟨xi, xt, 23, xa, xb, xc, xd, xe, xf⟩ ⟨yi, yt, yk, ya, yb, yc, yd, ye, yf⟩ = (awB L ⟨yi, yt, yk, ya, yb, yc, yd, ye, yf⟩) from by simp [mnB])
    clear F8 F26_27 F28 F29 F12_13 F14 H26 H12
    go_enter Try.func49, Try.ntmps49
    go_wp2_with ((go_at_call 20; (with_reducible refine HAZ.out.mono ?_); rintro e w5 ⟨rfl, hb5⟩; have oX5 := HXB.out w5 hb5; have oY5 := HYB.out w5 hb5; have oZ5 := HZB.out w5 hb5; have p0 := oX5.cell 0; have p1 := oX5.cell 1; have r0 := oY5.cell 0; have r1 := oY5.cell 1; have r2 := oY5.cell 2; have r3 := oY5.cell 3; have r4 := oY5.cell 4; have r5 := oY5.cell 5; have r6 := oY5.cell 6; have r7 := oY5.cell 7; have r8 := oY5.cell 8; have s0 := oZ5.cell 0; have s1 := oZ5.cell 1; have s2 := oZ5.cell 2; have s3 := oZ5.cell 3; have s4 := oZ5.cell 4; have s5 := oZ5.cell 5; have s6 := oZ5.cell 6; have s7 := oZ5.cell 7; have s8 := oZ5.cell 8; have hpl := oX5.lt; have hrl := oY5.lt; have hsl := oZ5.lt; simp at p0 p1 r0 r1 r2 r3 r4 r5 r6 r7 r8 s0 s1 s2 s3 s4 s5 s6 s7 s8; clear oX5 oY5 oZ5))
    all_goals go_ret
    all_goals exact ⟨by rw [HV2.out]; first | rfl | (simp; done), by first | exact HA.out.trans (hb6.mono hzs) | exact HA.out.trans (hb5.mono hzs)⟩
  by_cases hk24 : xk = 24
  · subst hk24
    have HV2 := Lib.hid (show mnB L ⟨xi, xt, 24, xa, xb, xc, xd, xe, xf⟩ ⟨yi, yt, yk, ya, yb, yc, yd, ye, yf⟩ = (awB L ⟨yi, yt, yk, ya, yb, yc, yd, ye, yf⟩) from by simp [mnB])
    clear F8 F26_27 F28 F29 F12_13 F14 H26 H12
    go_enter Try.func49, Try.ntmps49
    go_wp2_with ((go_at_call 20; (with_reducible refine HAZ.out.mono ?_); rintro e w5 ⟨rfl, hb5⟩; have oX5 := HXB.out w5 hb5; have oY5 := HYB.out w5 hb5; have oZ5 := HZB.out w5 hb5; have p0 := oX5.cell 0; have p1 := oX5.cell 1; have r0 := oY5.cell 0; have r1 := oY5.cell 1; have r2 := oY5.cell 2; have r3 := oY5.cell 3; have r4 := oY5.cell 4; have r5 := oY5.cell 5; have r6 := oY5.cell 6; have r7 := oY5.cell 7; have r8 := oY5.cell 8; have s0 := oZ5.cell 0; have s1 := oZ5.cell 1; have s2 := oZ5.cell 2; have s3 := oZ5.cell 3; have s4 := oZ5.cell 4; have s5 := oZ5.cell 5; have s6 := oZ5.cell 6; have s7 := oZ5.cell 7; have s8 := oZ5.cell 8; have hpl := oX5.lt; have hrl := oY5.lt; have hsl := oZ5.lt; simp at p0 p1 r0 r1 r2 r3 r4 r5 r6 r7 r8 s0 s1 s2 s3 s4 s5 s6 s7 s8; clear oX5 oY5 oZ5))
    all_goals go_ret
    all_goals exact ⟨by rw [HV2.out]; first | rfl | (simp; done), by first | exact HA.out.trans (hb6.mono hzs) | exact HA.out.trans (hb5.mono hzs)⟩
  by_cases hk7 : xk = 7
  · subst hk7
    have HV2 := Lib.hid (show mnB L ⟨xi, xt, 7, xa, xb, xc, xd, xe, xf⟩ ⟨yi, yt, yk, ya, yb, yc, yd, ye, yf⟩ = (awB L ⟨yi, yt, yk, ya, yb, yc, yd, ye, yf⟩) from by simp [mnB])
    clear F8 F26_27 F28 F29 F12_13 F14 H26 H12
    go_enter Try.func49, Try.ntmps49
    go_wp2_with ((go_at_call 20; (with_reducible refine HAZ.out.mono ?_); rintro e w5 ⟨rfl, hb5⟩; have oX5 := HXB.out w5 hb5; have oY5 := HYB.out w5 hb5; have oZ5 := HZB.out w5 hb5; have p0 := oX5.cell 0; have p1 := oX5.cell 1; have r0 := oY5.cell 0; have r1 := oY5.cell 1; have r2 := oY5.cell 2; have r3 := oY5.cell 3; have r4 := oY5.cell 4; have r5 := oY5.cell 5; have r6 := oY5.cell 6; have r7 := oY5.cell 7; have r8 := oY5.cell 8; have s0 := oZ5.cell 0; have s1 := oZ5.cell 1; have s2 := oZ5.cell 2; have s3 := oZ5.cell 3; have s4 := oZ5.cell 4; have s5 := oZ5.cell 5; have s6 := oZ5.cell 6; have s7 := oZ5.cell 7; have s8 := oZ5.cell 8; have hpl := oX5.lt; have hrl := oY5.lt; have hsl := oZ5.lt; simp at p0 p1 r0 r1 r2 r3 r4 r5 r6 r7 r8 s0 s1 s2 s3 s4 s5 s6 s7 s8; clear oX5 oY5 oZ5))
    all_goals go_ret
    all_goals exact ⟨by rw [HV2.out]; first | rfl | (simp; done), by first | exact HA.out.trans (hb6.mono hzs) | exact HA.out.trans (hb5.mono hzs)⟩
  by_cases hk25 : xk = 25
  · subst hk25
    have HV2 := Lib.hid (show mnB L ⟨xi, xt, 25, xa, xb, xc, xd, xe, xf⟩ ⟨yi, yt, yk, ya, yb, yc, yd, ye, yf⟩ = (awB L ⟨yi, yt, yk, ya, yb, yc, yd, ye, yf⟩ && decide (ya ≤ xt)) from by simp [mnB])
    clear F8 F26_27 F28 F29 F12_13 F14 H26 H12
    generalize awB L ⟨yi, yt, yk, ya, yb, yc, yd, ye, yf⟩ = b1 at *
    cases b1
    all_goals
      go_enter Try.func49, Try.ntmps49
      go_wp2_with ((go_at_call 20; (with_reducible refine HAZ.out.mono ?_); rintro e w5 ⟨rfl, hb5⟩; have oX5 := HXB.out w5 hb5; have oY5 := HYB.out w5 hb5; have oZ5 := HZB.out w5 hb5; have p0 := oX5.cell 0; have p1 := oX5.cell 1; have r0 := oY5.cell 0; have r1 := oY5.cell 1; have r2 := oY5.cell 2; have r3 := oY5.cell 3; have r4 := oY5.cell 4; have r5 := oY5.cell 5; have r6 := oY5.cell 6; have r7 := oY5.cell 7; have r8 := oY5.cell 8; have s0 := oZ5.cell 0; have s1 := oZ5.cell 1; have s2 := oZ5.cell 2; have s3 := oZ5.cell 3; have s4 := oZ5.cell 4; have s5 := oZ5.cell 5; have s6 := oZ5.cell 6; have s7 := oZ5.cell 7; have s8 := oZ5.cell 8; have hpl := oX5.lt; have hrl := oY5.lt; have hsl := oZ5.lt; simp at p0 p1 r0 r1 r2 r3 r4 r5 r6 r7 r8 s0 s1 s2 s3 s4 s5 s6 s7 s8; clear oX5 oY5 oZ5))
      all_goals go_ret
      all_goals exact ⟨by rw [HV2.out]; first | rfl | (simp; done), by first | exact HA.out.trans (hb6.mono hzs) | exact HA.out.trans (hb5.mono hzs)⟩
  by_cases hk8 : xk = 8
  · subst hk8
    have HV2 := Lib.hid (show mnB L ⟨xi, xt, 8, xa, xb, xc, xd, xe, xf⟩ ⟨yi, yt, yk, ya, yb, yc, yd, ye, yf⟩ = (awB L ⟨yi, yt, yk, ya, yb, yc, yd, ye, yf⟩ && !nmd L xa [8]) from by simp [mnB])
    clear F26_27 F28 F29 F12_13 F14 H26 H12
    generalize awB L ⟨yi, yt, yk, ya, yb, yc, yd, ye, yf⟩ = b1 at *
    cases b1
    all_goals
      go_enter Try.func49, Try.ntmps49
      go_wp2_with (first | (go_at_call 20; (with_reducible refine HAZ.out.mono ?_); rintro e w5 ⟨rfl, hb5⟩; have oX5 := HXB.out w5 hb5; have oY5 := HYB.out w5 hb5; have oZ5 := HZB.out w5 hb5; have p0 := oX5.cell 0; have p1 := oX5.cell 1; have r0 := oY5.cell 0; have r1 := oY5.cell 1; have r2 := oY5.cell 2; have r3 := oY5.cell 3; have r4 := oY5.cell 4; have r5 := oY5.cell 5; have r6 := oY5.cell 6; have r7 := oY5.cell 7; have r8 := oY5.cell 8; have s0 := oZ5.cell 0; have s1 := oZ5.cell 1; have s2 := oZ5.cell 2; have s3 := oZ5.cell 3; have s4 := oZ5.cell 4; have s5 := oZ5.cell 5; have s6 := oZ5.cell 6; have s7 := oZ5.cell 7; have s8 := oZ5.cell 8; have hpl := oX5.lt; have hrl := oY5.lt; have hsl := oZ5.lt; simp at p0 p1 r0 r1 r2 r3 r4 r5 r6 r7 r8 s0 s1 s2 s3 s4 s5 s6 s7 s8; clear oX5 oY5 oZ5) | (go_at_call 32; (with_reducible refine (F8.out w5 hb5).mono ?_); rintro e w6 ⟨rfl, hb6⟩))
      all_goals go_ret
      all_goals exact ⟨by rw [HV2.out]; first | rfl | (simp; done), by first | exact HA.out.trans (hb6.mono hzs) | exact HA.out.trans (hb5.mono hzs)⟩
  by_cases hk26 : xk = 26
  · subst hk26
    have HV2 := Lib.hid (show mnB L ⟨xi, xt, 26, xa, xb, xc, xd, xe, xf⟩ ⟨yi, yt, yk, ya, yb, yc, yd, ye, yf⟩ = (!nmd L xa [26, 27]) from by simp [mnB])
    clear F8 F28 F29 F12_13 F14 H26 H12 HAZ
    go_enter Try.func49, Try.ntmps49
    go_wp2_with ((go_at_call 32; (with_reducible refine (F26_27.out wz HR.out).mono ?_); rintro e w6 ⟨rfl, hb6⟩))
    all_goals go_ret
    all_goals exact ⟨by rw [HV2.out]; first | rfl | (simp; done), by first | exact HA.out.trans (hb6.mono hzs) | exact HA.out.trans (hb5.mono hzs)⟩
  by_cases hk27 : xk = 27
  · subst hk27
    have HV2 := Lib.hid (show mnB L ⟨xi, xt, 27, xa, xb, xc, xd, xe, xf⟩ ⟨yi, yt, yk, ya, yb, yc, yd, ye, yf⟩ = (!nmd L xa [26, 27]) from by simp [mnB])
    clear F8 F28 F29 F12_13 F14 H26 H12 HAZ
    go_enter Try.func49, Try.ntmps49
    go_wp2_with ((go_at_call 32; (with_reducible refine (F26_27.out wz HR.out).mono ?_); rintro e w6 ⟨rfl, hb6⟩))
    all_goals go_ret
    all_goals exact ⟨by rw [HV2.out]; first | rfl | (simp; done), by first | exact HA.out.trans (hb6.mono hzs) | exact HA.out.trans (hb5.mono hzs)⟩
  by_cases hk28 : xk = 28
  · subst hk28
    have HV2 := Lib.hid (show mnB L ⟨xi, xt, 28, xa, xb, xc, xd, xe, xf⟩ ⟨yi, yt, yk, ya, yb, yc, yd, ye, yf⟩ = (nmd L xa [26] && !nmd L xa [28]) from by simp [mnB])
    clear F8 F26_27 F29 F12_13 F14 H12 HAZ
    generalize nmd L xa [26] = b1 at *
    cases b1
    all_goals
      go_enter Try.func49, Try.ntmps49
      go_wp2_with (first | (go_at_call 43; (with_reducible refine H26.out.mono ?_); rintro e w5 ⟨rfl, hb5⟩; have oX5 := HXB.out w5 hb5; have oY5 := HYB.out w5 hb5; have oZ5 := HZB.out w5 hb5; have p0 := oX5.cell 0; have p1 := oX5.cell 1; have r0 := oY5.cell 0; have r1 := oY5.cell 1; have r2 := oY5.cell 2; have r3 := oY5.cell 3; have r4 := oY5.cell 4; have r5 := oY5.cell 5; have r6 := oY5.cell 6; have r7 := oY5.cell 7; have r8 := oY5.cell 8; have s0 := oZ5.cell 0; have s1 := oZ5.cell 1; have s2 := oZ5.cell 2; have s3 := oZ5.cell 3; have s4 := oZ5.cell 4; have s5 := oZ5.cell 5; have s6 := oZ5.cell 6; have s7 := oZ5.cell 7; have s8 := oZ5.cell 8; have hpl := oX5.lt; have hrl := oY5.lt; have hsl := oZ5.lt; simp at p0 p1 r0 r1 r2 r3 r4 r5 r6 r7 r8 s0 s1 s2 s3 s4 s5 s6 s7 s8; clear oX5 oY5 oZ5) | (go_at_call 32; (with_reducible refine (F28.out w5 hb5).mono ?_); rintro e w6 ⟨rfl, hb6⟩))
      all_goals go_ret
      all_goals exact ⟨by rw [HV2.out]; first | rfl | (simp; done), by first | exact HA.out.trans (hb6.mono hzs) | exact HA.out.trans (hb5.mono hzs)⟩
  by_cases hk29 : xk = 29
  · subst hk29
    have HV2 := Lib.hid (show mnB L ⟨xi, xt, 29, xa, xb, xc, xd, xe, xf⟩ ⟨yi, yt, yk, ya, yb, yc, yd, ye, yf⟩ = (!nmd L xa [29]) from by simp [mnB])
    clear F8 F26_27 F28 F12_13 F14 H26 H12 HAZ
    go_enter Try.func49, Try.ntmps49
    go_wp2_with ((go_at_call 32; (with_reducible refine (F29.out wz HR.out).mono ?_); rintro e w6 ⟨rfl, hb6⟩))
    all_goals go_ret
    all_goals exact ⟨by rw [HV2.out]; first | rfl | (simp; done), by first | exact HA.out.trans (hb6.mono hzs) | exact HA.out.trans (hb5.mono hzs)⟩
  by_cases hk12 : xk = 12
  · subst hk12
    have HV2 := Lib.hid (show mnB L ⟨xi, xt, 12, xa, xb, xc, xd, xe, xf⟩ ⟨yi, yt, yk, ya, yb, yc, yd, ye, yf⟩ = (!nmd L xa [12, 13]) from by simp [mnB])
    clear F8 F26_27 F28 F29 F14 H26 H12 HAZ
    go_enter Try.func49, Try.ntmps49
    go_wp2_with ((go_at_call 32; (with_reducible refine (F12_13.out wz HR.out).mono ?_); rintro e w6 ⟨rfl, hb6⟩))
    all_goals go_ret
    all_goals exact ⟨by rw [HV2.out]; first | rfl | (simp; done), by first | exact HA.out.trans (hb6.mono hzs) | exact HA.out.trans (hb5.mono hzs)⟩
  by_cases hk13 : xk = 13
  · subst hk13
    have HV2 := Lib.hid (show mnB L ⟨xi, xt, 13, xa, xb, xc, xd, xe, xf⟩ ⟨yi, yt, yk, ya, yb, yc, yd, ye, yf⟩ = (!nmd L xa [12, 13]) from by simp [mnB])
    clear F8 F26_27 F28 F29 F14 H26 H12 HAZ
    go_enter Try.func49, Try.ntmps49
    go_wp2_with ((go_at_call 32; (with_reducible refine (F12_13.out wz HR.out).mono ?_); rintro e w6 ⟨rfl, hb6⟩))
    all_goals go_ret
    all_goals exact ⟨by rw [HV2.out]; first | rfl | (simp; done), by first | exact HA.out.trans (hb6.mono hzs) | exact HA.out.trans (hb5.mono hzs)⟩
  by_cases hk14 : xk = 14
  · subst hk14
    have HV2 := Lib.hid (show mnB L ⟨xi, xt, 14, xa, xb, xc, xd, xe, xf⟩ ⟨yi, yt, yk, ya, yb, yc, yd, ye, yf⟩ = (nmd L xa [12] && !nmd L xa [14]) from by simp [mnB])
    clear F8 F26_27 F28 F29 F12_13 H26 HAZ
    generalize nmd L xa [12] = b1 at *
    cases b1
    all_goals
      go_enter Try.func49, Try.ntmps49
      go_wp2_with (first | (go_at_call 43; (with_reducible refine H12.out.mono ?_); rintro e w5 ⟨rfl, hb5⟩; have oX5 := HXB.out w5 hb5; have oY5 := HYB.out w5 hb5; have oZ5 := HZB.out w5 hb5; have p0 := oX5.cell 0; have p1 := oX5.cell 1; have r0 := oY5.cell 0; have r1 := oY5.cell 1; have r2 := oY5.cell 2; have r3 := oY5.cell 3; have r4 := oY5.cell 4; have r5 := oY5.cell 5; have r6 := oY5.cell 6; have r7 := oY5.cell 7; have r8 := oY5.cell 8; have s0 := oZ5.cell 0; have s1 := oZ5.cell 1; have s2 := oZ5.cell 2; have s3 := oZ5.cell 3; have s4 := oZ5.cell 4; have s5 := oZ5.cell 5; have s6 := oZ5.cell 6; have s7 := oZ5.cell 7; have s8 := oZ5.cell 8; have hpl := oX5.lt; have hrl := oY5.lt; have hsl := oZ5.lt; simp at p0 p1 r0 r1 r2 r3 r4 r5 r6 r7 r8 s0 s1 s2 s3 s4 s5 s6 s7 s8; clear oX5 oY5 oZ5) | (go_at_call 32; (with_reducible refine (F14.out w5 hb5).mono ?_); rintro e w6 ⟨rfl, hb6⟩))
      all_goals go_ret
      all_goals exact ⟨by rw [HV2.out]; first | rfl | (simp; done), by first | exact HA.out.trans (hb6.mono hzs) | exact HA.out.trans (hb5.mono hzs)⟩
  have HV2 := Lib.hid (show mnB L ⟨xi, xt, xk, xa, xb, xc, xd, xe, xf⟩ ⟨yi, yt, yk, ya, yb, yc, yd, ye, yf⟩ = true from by simp [mnB, hk6, hk22, hk23, hk24, hk7, hk25, hk8, hk26, hk27, hk28, hk29, hk12, hk13, hk14])
  have q6 : (xk == 6) = false := by simpa using hk6
  have q22 : (xk == 22) = false := by simpa using hk22
  have q23 : (xk == 23) = false := by simpa using hk23
  have q24 : (xk == 24) = false := by simpa using hk24
  have q7 : (xk == 7) = false := by simpa using hk7
  have q25 : (xk == 25) = false := by simpa using hk25
  have q8 : (xk == 8) = false := by simpa using hk8
  have q26 : (xk == 26) = false := by simpa using hk26
  have q27 : (xk == 27) = false := by simpa using hk27
  have q28 : (xk == 28) = false := by simpa using hk28
  have q29 : (xk == 29) = false := by simpa using hk29
  have q12 : (xk == 12) = false := by simpa using hk12
  have q13 : (xk == 13) = false := by simpa using hk13
  have q14 : (xk == 14) = false := by simpa using hk14
  clear F8 F26_27 F28 F29 F12_13 F14 H26 H12 HAZ hk6 hk22 hk23 hk24 hk7 hk25 hk8 hk26 hk27 hk28 hk29 hk12 hk13 hk14
  go_enter Try.func49, Try.ntmps49
  go_wp2_with fail
  go_ret
  exact ⟨by rw [HV2.out]; rfl, HA.out⟩

end Gr
end Go.Proofs.Ytdaafledkloegaa

/-
  The program's mayBeNamed of chapter 15.
-/
namespace Go.Proofs.Ytdaafledkloegaa
open Go.RowKit
set_option linter.unusedSimpArgs false
set_option linter.unusedVariables false
namespace Gr
open Ev (Evt EvIn hasB validB command closing zero fields Evs AtE evC evV W64)

set_option maxRecDepth 100000 in
set_option maxHeartbeats 16000000 in
theorem named_any (v : Value) (mb : Nat) (L : List Evt) (x : Evt) (w : World) (hP : Past w mb L) (hE : Evs w.heap.size w v L) (hAll : ∀ y ∈ L, EvIn y) (hL : L.length ≤ 1048576) (hx : EvIn x) (h1 : about x.kind ≠ 0 → 1 ≤ x.a) :
    Calls Try.prog 37 #[.agg #[v, .map (some mb)], evV x] w fun e w' => e = .returned (.bool (nbB L x)) ∧ Below w.heap.size w w' := by
  have HV := Lib.hid (show nbB L x = (if about x.kind = 0 then true else if (L.length : Int) < x.a then false else decide ((ev L (x.a - 1).toNat).kind = about x.kind) && mnB L x (ev L (x.a - 1).toNat)) from rfl)
  have HAB := Lib.hid (fun W => about_any x.kind W)
  have HEV := Lib.hid (fun j (hj : j < L.length) => show EvIn (ev L j) from by rw [ev_at hj]; exact hAll _ (List.getElem_mem hj))
  obtain ⟨a, cap, b, off, rfl, ha, hc⟩ := hE
  have HNM := Lib.hid (fun y (hy : EvIn y) W (hb : Below w.heap.size w W) => name_any a L.length cap mb L x y W (hP.grow hb) hL hx hy)
  have hA0 : Below w.heap.size w w := Below.refl _ _
  obtain ⟨xi, xt, xk, xa, xb, xc, xd, xe, xf⟩ := x
  unfold evV at HNM ⊢
  simp only at HV HAB HNM h1 ⊢
  obtain ⟨wx, hwx⟩ : ∃ wx, w.alloc (.cells #[.slice a L.length cap, .map (some mb)] 45) = wx := ⟨_, rfl⟩
  have oX := Ob.Obj.new w 45 [.slice a L.length cap, .map (some mb)]
  rw [show w.alloc (.cells ([.slice a L.length cap, .map (some mb)] : List Value).toArray 45) = wx from hwx] at oX
  have hA1 : Below w.heap.size w wx := by rw [← hwx]; exact hA0.alloc hA0.size _
  obtain ⟨wy, hwy⟩ : ∃ wy, wx.alloc (.cells #[.int .i64 xi, .int .i64 xt, .int .i64 xk, .int .i64 xa, .int .i64 xb, .int .i64 xc, .int .i64 xd, .int .i64 xe, .int .i64 xf] 41) = wy := ⟨_, rfl⟩
  have oY := Ob.Obj.new wx 41 [.int .i64 xi, .int .i64 xt, .int .i64 xk, .int .i64 xa, .int .i64 xb, .int .i64 xc, .int .i64 xd, .int .i64 xe, .int .i64 xf]
  rw [show wx.alloc (.cells ([.int .i64 xi, .int .i64 xt, .int .i64 xk, .int .i64 xa, .int .i64 xb, .int .i64 xc, .int .i64 xd, .int .i64 xe, .int .i64 xf] : List Value).toArray 41) = wy from hwy] at oY
  have hA2 : Below w.heap.size w wy := by rw [← hwy]; exact hA1.alloc hA1.size _
  have oX2 : Ob.Obj wy w.heap.size 45 [.slice a L.length cap, .map (some mb)] := by rw [← hwy]; exact oX.alloc _
  have x0 := oX2.cell 0
  have x1 := oX2.cell 1
  have y0 := oY.cell 0
  have y1 := oY.cell 1
  have y2 := oY.cell 2
  have y3 := oY.cell 3
  have y4 := oY.cell 4
  have y5 := oY.cell 5
  have y6 := oY.cell 6
  have y7 := oY.cell 7
  have y8 := oY.cell 8
  have hxl := oX2.lt
  have hyl := oY.lt
  simp at x0 x1 y0 y1 y2 y3 y4 y5 y6 y7 y8
  have HA := Lib.hid hA2
  by_cases hab : about xk = 0
  · rw [hab] at HAB
    have HV2 := Lib.hid (show nbB L ⟨xi, xt, xk, xa, xb, xc, xd, xe, xf⟩ = true from by rw [HV.out, if_pos hab])
    clear HV HNM h1 hA0 hA1 hA2 oX oX2 oY ha hc hP hab
    go_enter Try.func37, Try.ntmps37
    go_wp2_with (go_at_call 25; (with_reducible refine (HAB.out _).mono ?_); rintro e w5 ⟨rfl, rfl⟩)
    go_ret
    exact ⟨by rw [HV2.out]; rfl, HA.out⟩
  · have hb0 : (about xk == 0) = false := by simpa using hab
    have h1a := h1 hab
    by_cases hle : (L.length : Int) < xa
    · have HV2 := Lib.hid (show nbB L ⟨xi, xt, xk, xa, xb, xc, xd, xe, xf⟩ = false from by rw [HV.out, if_neg hab, if_pos hle])
      have hd : decide ((L.length : Int) < xa) = true := decide_eq_true hle
      clear HV HNM h1 hA0 hA1 hA2 oX oX2 oY ha hc hP hab
      generalize about xk = ak at *
      go_enter Try.func37, Try.ntmps37
      go_wp2_with (go_at_call 25; (with_reducible refine (HAB.out _).mono ?_); rintro e w5 ⟨rfl, rfl⟩)
      go_ret
      exact ⟨by rw [HV2.out]; rfl, HA.out⟩
    · obtain ⟨m, rfl⟩ : ∃ m : Nat, xa = (m : Int) + 1 := ⟨(xa - 1).toNat, by omega⟩
      have hm : m < L.length := by omega
      have hmt : ((m : Int) + 1 - 1).toNat = m := by omega
      obtain ⟨rfl, hbl⟩ := ha (by omega)
      have hd : decide ((L.length : Int) < (m : Int) + 1) = false := decide_eq_false hle
      have hd2 : ¬ ((L.length : Int) < (m : Int) + 1) := hle
      have hw2 : wrap64 (m : Int) = (m : Int) := by have h := IntKind.wrap_i64 (m : Int); unfold wrap64; omega
      have hi1 : (0 : Int) ≤ (m : Int) ∧ (m : Int) < (L.length : Int) := by omega
      have hw1 : IntKind.i64.wrap ((m : Int) + 1 - 1) = (m : Int) := by rw [IntKind.wrap_i64]; omega
      have HV1 := Lib.hid (show nbB L ⟨xi, xt, xk, ((m : Int) + 1), xb, xc, xd, xe, xf⟩ = (decide ((ev L m).kind = about xk) && mnB L ⟨xi, xt, xk, ((m : Int) + 1), xb, xc, xd, xe, xf⟩ (ev L m)) from by rw [HV.out, if_neg hab, if_neg hle, hmt])
      have eA := (hc m hm).below hA2 hbl
      rw [← ev_at hm] at eA
      have e0 := eA 0 (by decide)
      have e1 := eA 1 (by decide)
      have e2 := eA 2 (by decide)
      have e3 := eA 3 (by decide)
      have e4 := eA 4 (by decide)
      have e5 := eA 5 (by decide)
      have e6 := eA 6 (by decide)
      have e7 := eA 7 (by decide)
      have e8 := eA 8 (by decide)
      have HNY := Lib.hid (HNM.out (ev L m) (HEV.out m hm))
      clear eA HV hab hle HNM HEV hc ha hAll h1
      generalize ev L m = yy at *
      obtain ⟨zi, zt, zk, za, zb, zc, zd, ze, zf⟩ := yy
      unfold evC at e0 e1 e2 e3 e4 e5 e6 e7 e8
      simp only [List.getElem?_cons_zero, List.getElem?_cons_succ, Nat.add_zero] at e0 e1 e2 e3 e4 e5 e6 e7 e8
      simp only at HV1 HNY
      obtain ⟨wz, hwz⟩ : ∃ wz, wy.alloc (.cells #[.int .i64 zi, .int .i64 zt, .int .i64 zk, .int .i64 za, .int .i64 zb, .int .i64 zc, .int .i64 zd, .int .i64 ze, .int .i64 zf] 41) = wz := ⟨_, rfl⟩
      have oZ := Ob.Obj.new wy 41 [.int .i64 zi, .int .i64 zt, .int .i64 zk, .int .i64 za, .int .i64 zb, .int .i64 zc, .int .i64 zd, .int .i64 ze, .int .i64 zf]
      rw [show wy.alloc (.cells ([.int .i64 zi, .int .i64 zt, .int .i64 zk, .int .i64 za, .int .i64 zb, .int .i64 zc, .int .i64 zd, .int .i64 ze, .int .i64 zf] : List Value).toArray 41) = wz from hwz] at oZ
      have hA3 : Below w.heap.size w wz := by rw [← hwz]; exact hA2.alloc hA2.size _
      have oX3 : Ob.Obj wz w.heap.size 45 [.slice (some ⟨b, off, none⟩) L.length cap, .map (some mb)] := by rw [← hwz]; exact oX2.alloc _
      have oY3 : Ob.Obj wz wx.heap.size 41 [.int .i64 xi, .int .i64 xt, .int .i64 xk, .int .i64 ((m : Int) + 1), .int .i64 xb, .int .i64 xc, .int .i64 xd, .int .i64 xe, .int .i64 xf] := by rw [← hwz]; exact oY.alloc _
      have p0 := oX3.cell 0
      have p1 := oX3.cell 1
      have r0 := oY3.cell 0
      have r1 := oY3.cell 1
      have r2 := oY3.cell 2
      have r3 := oY3.cell 3
      have r4 := oY3.cell 4
      have r5 := oY3.cell 5
      have r6 := oY3.cell 6
      have r7 := oY3.cell 7
      have r8 := oY3.cell 8
      have z0 := oZ.cell 0
      have z1 := oZ.cell 1
      have z2 := oZ.cell 2
      have z3 := oZ.cell 3
      have z4 := oZ.cell 4
      have z5 := oZ.cell 5
      have z6 := oZ.cell 6
      have z7 := oZ.cell 7
      have z8 := oZ.cell 8
      have hpl := oX3.lt
      have hrl := oY3.lt
      have hzl := oZ.lt
      simp at p0 p1 r0 r1 r2 r3 r4 r5 r6 r7 r8 z0 z1 z2 z3 z4 z5 z6 z7 z8
      have HA3 := Lib.hid hA3
      have HNZ := Lib.hid (HNY.out wz hA3)
      have hs3 := hA3.size
      clear hA0 hA1 hA2 hA3 oX oX2 oX3 oY oY3 oZ HNY hP hL
      by_cases hzk : zk = about xk
      · have HV2 := Lib.hid (show nbB L ⟨xi, xt, xk, ((m : Int) + 1), xb, xc, xd, xe, xf⟩ = mnB L ⟨xi, xt, xk, ((m : Int) + 1), xb, xc, xd, xe, xf⟩ ⟨zi, zt, zk, za, zb, zc, zd, ze, zf⟩ from by rw [HV1.out, decide_eq_true hzk]; rfl)
        clear HV1
        generalize about xk = ak at *
        subst hzk
        generalize mnB L ⟨xi, xt, xk, ((m : Int) + 1), xb, xc, xd, xe, xf⟩ ⟨zi, zt, zk, za, zb, zc, zd, ze, zf⟩ = nb at *
        go_enter Try.func37, Try.ntmps37
        go_wp2_with (first | (go_at_call 25; (with_reducible refine (HAB.out _).mono ?_); rintro e w5 ⟨rfl, rfl⟩) | (go_at_call 49; (with_reducible refine HNZ.out.mono ?_); rintro e w6 ⟨rfl, hb6⟩))
        all_goals go_ret
        all_goals exact ⟨by rw [HV2.out]; rfl, HA3.out.trans (hb6.mono hs3)⟩
      · have HV2 := Lib.hid (show nbB L ⟨xi, xt, xk, ((m : Int) + 1), xb, xc, xd, xe, xf⟩ = false from by rw [HV1.out, decide_eq_false hzk]; rfl)
        clear HV1
        generalize about xk = ak at *
        have hzb : (zk == ak) = false := by simpa using hzk
        go_enter Try.func37, Try.ntmps37
        go_wp2_with (go_at_call 25; (with_reducible refine (HAB.out _).mono ?_); rintro e w5 ⟨rfl, rfl⟩)
        all_goals go_ret
        all_goals exact ⟨by rw [HV2.out]; rfl, HA3.out⟩

end Gr
end Go.Proofs.Ytdaafledkloegaa

/-
  The program's restIsZero, wordsMayBe, numbersMayBe, Valid (P14.2).
-/
namespace Go.Proofs.Ytdaafledkloegaa
open Go.RowKit
set_option linter.unusedSimpArgs false
set_option linter.unusedVariables false
namespace Ev

def restB (x : Evt) : Bool := ((nums x).drop (many x)).all fun v => decide (v = 0)
def wordsB (k b c : Int) : Bool :=
  if k = 9 then win b 0 7 else if k = 14 then win c 0 1 else if k = 26 then decide (1 ≤ b) else if k = 28 then win c 0 4
  else if k = 24 then win b 1 4 && decide (1 ≤ c) else if k = 22 ∨ k = 23 then decide (1 ≤ c) else true
def nmbB (x : Evt) : Bool :=
  if x.kind = 11 ∨ x.kind = 15 ∨ x.kind = 16 ∨ x.kind = 17 ∨ x.kind = 30 ∨ x.kind = 31 then true
  else if x.kind = 3 then win x.a 0 7 else if x.kind = 10 then win x.a 0 3 else if x.kind = 18 then decide (1 ≤ x.b)
  else if x.kind = 1 then ([x.c, x.d, x.e, x.f].all fun v => decide (0 ≤ v)) && win x.a 0 7 else if x.kind = 5 then win x.a 0 7
  else if x.kind = 19 ∨ x.kind = 21 then win x.a 0 7 && [x.c].all fun v => decide (0 ≤ v) else if x.kind = 4 ∨ x.kind = 20 then [x.a].all fun v => decide (0 ≤ v)
  else decide (1 ≤ x.a) && wordsB x.kind x.b x.c
theorem fields_which {k : Int} (h : 0 ≤ fields k) : fields k = 0 ∨ fields k = 1 ∨ fields k = 2 ∨ fields k = 3 ∨ fields k = 6 := by
  obtain ⟨h1, h2⟩ := kind_in h
  obtain ⟨q, rfl⟩ : ∃ q : Nat, k = (q : Int) := ⟨k.toNat, by omega⟩
  have : ∀ q : Nat, q < 32 → 1 ≤ q → (tab.getD q (-1) = 0 ∨ tab.getD q (-1) = 1 ∨ tab.getD q (-1) = 2 ∨ tab.getD q (-1) = 3 ∨ tab.getD q (-1) = 6) := by decide
  unfold fields
  rw [if_neg (by omega)]
  exact this q (by omega) (by omega)
set_option maxHeartbeats 4000000 in
theorem valid_parts {x : Evt} (hI : EvIn x) (h : 0 ≤ fields x.kind) : validB x = (win x.id 1 256 && win x.time 0 1099511627776 && restB x && nmbB x) := by
  obtain ⟨h1, h2⟩ := kind_in h
  obtain ⟨i, t, k, a, b, c, d, e, f⟩ := x
  obtain ⟨⟨_, _⟩, ⟨_, _⟩, _, ⟨_, _⟩, ⟨_, _⟩, ⟨_, _⟩, ⟨_, _⟩, ⟨_, _⟩, ⟨_, _⟩⟩ := hI
  simp only at *
  have hk : k = 1 ∨ k = 2 ∨ k = 3 ∨ k = 4 ∨ k = 5 ∨ k = 6 ∨ k = 7 ∨ k = 8 ∨ k = 9 ∨ k = 10 ∨ k = 11 ∨ k = 12 ∨ k = 13 ∨ k = 14 ∨ k = 15 ∨ k = 16 ∨ k = 17 ∨ k = 18 ∨ k = 19 ∨ k = 20 ∨ k = 21 ∨ k = 22 ∨ k = 23 ∨ k = 24 ∨ k = 25 ∨ k = 26 ∨ k = 27 ∨ k = 28 ∨ k = 29 ∨ k = 30 ∨ k = 31 := by omega
  clear h h1 h2
  rcases hk with rfl | rfl | rfl | rfl | rfl | rfl | rfl | rfl | rfl | rfl | rfl | rfl | rfl | rfl | rfl | rfl | rfl | rfl | rfl | rfl | rfl | rfl | rfl | rfl | rfl | rfl | rfl | rfl | rfl | rfl | rfl
  all_goals
    rw [Bool.eq_iff_iff]
    simp [validB, numB, span, fields, tab, restB, nums, many, nmbB, wordsB, win]
    try omega
theorem valid_none {x : Evt} (h : fields x.kind < 0) : validB x = false := valid_head (.inl h)

set_option maxRecDepth 100000 in
set_option maxHeartbeats 4000000 in
theorem rest_0 (x : Evt) (hn : fields x.kind = 0) (w : World) :
    Calls Try.prog 46 #[evV x] w fun e w' => e = .returned (.bool (restB x)) ∧ Below w.heap.size w w' := by
  have HF := Lib.hid (fun W => fields_any x.kind W)
  rw [hn] at HF
  have hR : restB x = ((nums x).drop 0).all fun v => decide (v = 0) := by unfold restB many; rw [hn]; rfl
  have HNF := Lib.hid (fun (q : Nat) (hq : q < 6) (h : (nums x).getD q 0 ≠ 0) => show restB x = false from by
    rw [hR]
    cases ha : ((nums x).drop 0).all fun v => decide (v = 0) with
    | false => rfl
    | true =>
      have hl : q < ((nums x).drop 0).length := by simp [nums]; omega
      have := List.all_eq_true.1 ha _ (List.getElem_mem hl)
      simp only [List.getElem_drop, decide_eq_true_eq] at this
      rw [List.getD_eq_getElem?_getD, List.getElem?_eq_getElem (show q < (nums x).length by simp [nums]; omega)] at h
      exact absurd (by simpa using this) h)
  have HNT := Lib.hid (fun (h : ∀ q, q < 6 → (nums x).getD q 0 = 0) => show restB x = true from by
    rw [hR, List.all_eq_true]
    intro v hv
    obtain ⟨q, hq, rfl⟩ := List.getElem_of_mem hv
    have hq2 : q < 6 := by first | (simp [nums] at hq; done) | (simp [nums] at hq; omega)
    have := h q hq2
    rw [List.getD_eq_getElem?_getD, List.getElem?_eq_getElem (show q < (nums x).length by simp [nums]; omega)] at this
    simp only [List.getElem_drop, decide_eq_true_eq]
    simpa using this)
  have HC := Lib.hid (fun (W : World) (g : Nat) (h : Ob.Obj W g 41 (evC x)) (q : Nat) (hq : q < 6) => show W.cell? ⟨g, 3 + q, none⟩ = some (.int .i64 ((nums x).getD q 0)) from by
    rw [h.cell (3 + q)]
    match q, hq with
    | 0, _ => rfl
    | 1, _ => rfl
    | 2, _ => rfl
    | 3, _ => rfl
    | 4, _ => rfl
    | 5, _ => rfl
    | j + 6, h2 => exact absurd h2 (by omega))
  have HP := Lib.hid (fun (W : World) (g b : Nat) (h : Ob.Obj W g 71 (ptrC b)) (q : Nat) (hq : q < 6) => show W.cell? ⟨g, q, none⟩ = some (.pointer (some ⟨b, 3 + q, none⟩)) from by
    rw [h.cell q]
    match q, hq with
    | 0, _ => rfl
    | 1, _ => rfl
    | 2, _ => rfl
    | 3, _ => rfl
    | 4, _ => rfl
    | 5, _ => rfl
    | j + 6, h2 => exact absurd h2 (by omega))
  generalize restB x = rb at *
  generalize hNU : (fun j => (nums x).getD j 0) = NU at *
  have hNU2 : ∀ j, (nums x).getD j 0 = NU j := fun j => by rw [← hNU]
  simp only [hNU2] at HNF HNT HC
  clear hNU hNU2 hR hn
  obtain ⟨i, t, k, a, b, c, d, e, f⟩ := x
  unfold evV
  simp only at *
  have oE := Ob.Obj.new w 41 [.int .i64 i, .int .i64 t, .int .i64 k, .int .i64 a, .int .i64 b, .int .i64 c, .int .i64 d, .int .i64 e, .int .i64 f]
  have hA : Below w.heap.size w (w.alloc (.cells #[.int .i64 i, .int .i64 t, .int .i64 k, .int .i64 a, .int .i64 b, .int .i64 c, .int .i64 d, .int .i64 e, .int .i64 f] 41)) := (Below.refl _ _).alloc (Nat.le_refl _) _
  have HN := Lib.hid (fun W => numbers_any w.heap.size W)
  unfold ptrC at HN
  go_enter Try.func46, Try.ntmps46
  go_wp2_with (first
    | (go_at_call 50; (with_reducible refine (HN.out _).mono ?_); rintro e w1 ⟨rfl, hb1⟩; have hB1 := hA.trans (hb1.mono hA.size); have oE1 := oE.below hb1; have oP1 := Ob.Obj.new w1 71 (ptrC w.heap.size); have hB2 := hB1.alloc hB1.size (.cells (ptrC w.heap.size).toArray 71); have oE2 := oE1.alloc (.cells (ptrC w.heap.size).toArray 71); have c2 := oE2.cell 2; simp [ptrC] at c2; have hz2 := oP1.lt)
    | (go_at_call 45; (with_reducible refine (HF.out _).mono ?_); rintro e w3 ⟨rfl, rfl⟩))
  have HB2 := Lib.hid hB2
  have OE2 := Lib.hid oE2
  have OP2 := Lib.hid oP1
  have he2 := oE2.lt
  unfold ptrC at HB2 OE2 OP2 hz2 he2
  clear hB2 oE2 oP1 hB1 oE1 oE hA hb1 c2 HN HF
  go_loopw [12] (fun s wr => ∃ q : Nat, q ≤ 6 ∧ s = .int .i64 (q : Int) ∧ Hid (∀ j, j < q → NU j = 0) ∧ Below w.heap.size w wr ∧ Ob.Obj wr w.heap.size 41 (evC ⟨i, t, k, a, b, c, d, e, f⟩) ∧ Ob.Obj wr w1.heap.size 71 (ptrC w.heap.size)) (fun s _ => 6 - (intOf s).toNat)
  case atStart => exact ⟨0, Nat.zero_le _, rfl, (fun j hj => absurd hj (by omega)), HB2.out, OE2.out, OP2.out⟩
  case round =>
    clear HB2 OE2 OP2 hz2 he2
    obtain ⟨q, hq, rfl, hall, hB, oE, oP⟩ := hrel
    obtain ⟨wo, rfl⟩ : ∃ wo : World, wo = wr := ⟨_, rfl⟩
    have he2 := oE.lt
    have hz2 := oP.lt
    by_cases hlt : q < 6
    · have hi1 : (0 : Int) ≤ (q : Int) ∧ (q : Int) < 6 := by omega
      have e0 := HP.out _ _ _ oP q hlt
      have e1 := HC.out _ _ oE q hlt
      have HX := Lib.hid (HNF.out q hlt)
      have HAL := Lib.hid (fun (h : NU q = 0) j (hj : j < q + 1) => show NU j = 0 from if hjq : j = q then (by rw [hjq]; exact h) else hall.out j (by omega))
      clear hall HC HP HNF HNT
      generalize NU q = v at *
      by_cases hv : v = 0
      · subst hv
        have HAL2 := Lib.hid (HAL.out rfl)
        clear HAL HX
        go_wp2_with fail
        go_roundw
        case rel => exact ⟨q + 1, by omega, by go_num, HAL2, hB, oE, oP⟩
        case measure => simp [intOf]; omega
      · have hvb : (v != 0) = true := by simpa using hv
        obtain rfl := HX.out hv
        clear HAL hv
        go_wp2_with fail
        go_ret
        exact ⟨rfl, hB⟩
    · obtain rfl : q = 6 := by omega
      obtain rfl := HNT.out hall.out
      go_wp2_with fail
      go_ret
      exact ⟨rfl, hB⟩

set_option maxRecDepth 100000 in
set_option maxHeartbeats 4000000 in
theorem rest_1 (x : Evt) (hn : fields x.kind = 1) (w : World) :
    Calls Try.prog 46 #[evV x] w fun e w' => e = .returned (.bool (restB x)) ∧ Below w.heap.size w w' := by
  have HF := Lib.hid (fun W => fields_any x.kind W)
  rw [hn] at HF
  have hR : restB x = ((nums x).drop 1).all fun v => decide (v = 0) := by unfold restB many; rw [hn]; rfl
  have HNF := Lib.hid (fun (q : Nat) (hq : q < 5) (h : (nums x).getD (1 + q) 0 ≠ 0) => show restB x = false from by
    rw [hR]
    cases ha : ((nums x).drop 1).all fun v => decide (v = 0) with
    | false => rfl
    | true =>
      have hl : q < ((nums x).drop 1).length := by simp [nums]; omega
      have := List.all_eq_true.1 ha _ (List.getElem_mem hl)
      simp only [List.getElem_drop, decide_eq_true_eq] at this
      rw [List.getD_eq_getElem?_getD, List.getElem?_eq_getElem (show 1 + q < (nums x).length by simp [nums]; omega)] at h
      exact absurd (by simpa using this) h)
  have HNT := Lib.hid (fun (h : ∀ q, q < 5 → (nums x).getD (1 + q) 0 = 0) => show restB x = true from by
    rw [hR, List.all_eq_true]
    intro v hv
    obtain ⟨q, hq, rfl⟩ := List.getElem_of_mem hv
    have hq2 : q < 5 := by first | (simp [nums] at hq; done) | (simp [nums] at hq; omega)
    have := h q hq2
    rw [List.getD_eq_getElem?_getD, List.getElem?_eq_getElem (show 1 + q < (nums x).length by simp [nums]; omega)] at this
    simp only [List.getElem_drop, decide_eq_true_eq]
    simpa using this)
  have HC := Lib.hid (fun (W : World) (g : Nat) (h : Ob.Obj W g 41 (evC x)) (q : Nat) (hq : q < 5) => show W.cell? ⟨g, 4 + q, none⟩ = some (.int .i64 ((nums x).getD (1 + q) 0)) from by
    rw [h.cell (4 + q)]
    match q, hq with
    | 0, _ => rfl
    | 1, _ => rfl
    | 2, _ => rfl
    | 3, _ => rfl
    | 4, _ => rfl
    | j + 5, h2 => exact absurd h2 (by omega))
  have HP := Lib.hid (fun (W : World) (g b : Nat) (h : Ob.Obj W g 71 (ptrC b)) (q : Nat) (hq : q < 5) => show W.cell? ⟨g, 1 + q, none⟩ = some (.pointer (some ⟨b, 4 + q, none⟩)) from by
    rw [h.cell (1 + q)]
    match q, hq with
    | 0, _ => rfl
    | 1, _ => rfl
    | 2, _ => rfl
    | 3, _ => rfl
    | 4, _ => rfl
    | j + 5, h2 => exact absurd h2 (by omega))
  generalize restB x = rb at *
  generalize hNU : (fun j => (nums x).getD j 0) = NU at *
  have hNU2 : ∀ j, (nums x).getD j 0 = NU j := fun j => by rw [← hNU]
  simp only [hNU2] at HNF HNT HC
  clear hNU hNU2 hR hn
  obtain ⟨i, t, k, a, b, c, d, e, f⟩ := x
  unfold evV
  simp only at *
  have oE := Ob.Obj.new w 41 [.int .i64 i, .int .i64 t, .int .i64 k, .int .i64 a, .int .i64 b, .int .i64 c, .int .i64 d, .int .i64 e, .int .i64 f]
  have hA : Below w.heap.size w (w.alloc (.cells #[.int .i64 i, .int .i64 t, .int .i64 k, .int .i64 a, .int .i64 b, .int .i64 c, .int .i64 d, .int .i64 e, .int .i64 f] 41)) := (Below.refl _ _).alloc (Nat.le_refl _) _
  have HN := Lib.hid (fun W => numbers_any w.heap.size W)
  unfold ptrC at HN
  go_enter Try.func46, Try.ntmps46
  go_wp2_with (first
    | (go_at_call 50; (with_reducible refine (HN.out _).mono ?_); rintro e w1 ⟨rfl, hb1⟩; have hB1 := hA.trans (hb1.mono hA.size); have oE1 := oE.below hb1; have oP1 := Ob.Obj.new w1 71 (ptrC w.heap.size); have hB2 := hB1.alloc hB1.size (.cells (ptrC w.heap.size).toArray 71); have oE2 := oE1.alloc (.cells (ptrC w.heap.size).toArray 71); have c2 := oE2.cell 2; simp [ptrC] at c2; have hz2 := oP1.lt)
    | (go_at_call 45; (with_reducible refine (HF.out _).mono ?_); rintro e w3 ⟨rfl, rfl⟩))
  have HB2 := Lib.hid hB2
  have OE2 := Lib.hid oE2
  have OP2 := Lib.hid oP1
  have he2 := oE2.lt
  unfold ptrC at HB2 OE2 OP2 hz2 he2
  clear hB2 oE2 oP1 hB1 oE1 oE hA hb1 c2 HN HF
  go_loopw [12] (fun s wr => ∃ q : Nat, q ≤ 5 ∧ s = .int .i64 (q : Int) ∧ Hid (∀ j, j < q → NU (1 + j) = 0) ∧ Below w.heap.size w wr ∧ Ob.Obj wr w.heap.size 41 (evC ⟨i, t, k, a, b, c, d, e, f⟩) ∧ Ob.Obj wr w1.heap.size 71 (ptrC w.heap.size)) (fun s _ => 5 - (intOf s).toNat)
  case atStart => exact ⟨0, Nat.zero_le _, rfl, (fun j hj => absurd hj (by omega)), HB2.out, OE2.out, OP2.out⟩
  case round =>
    clear HB2 OE2 OP2 hz2 he2
    obtain ⟨q, hq, rfl, hall, hB, oE, oP⟩ := hrel
    obtain ⟨wo, rfl⟩ : ∃ wo : World, wo = wr := ⟨_, rfl⟩
    have he2 := oE.lt
    have hz2 := oP.lt
    by_cases hlt : q < 5
    · have hi1 : (0 : Int) ≤ (q : Int) ∧ (q : Int) < 5 := by omega
      have e0 := HP.out _ _ _ oP q hlt
      have e1 := HC.out _ _ oE q hlt
      have HX := Lib.hid (HNF.out q hlt)
      have HAL := Lib.hid (fun (h : NU (1 + q) = 0) j (hj : j < q + 1) => show NU (1 + j) = 0 from if hjq : j = q then (by rw [hjq]; exact h) else hall.out j (by omega))
      clear hall HC HP HNF HNT
      generalize NU (1 + q) = v at *
      by_cases hv : v = 0
      · subst hv
        have HAL2 := Lib.hid (HAL.out rfl)
        clear HAL HX
        go_wp2_with fail
        go_roundw
        case rel => exact ⟨q + 1, by omega, by go_num, HAL2, hB, oE, oP⟩
        case measure => simp [intOf]; omega
      · have hvb : (v != 0) = true := by simpa using hv
        obtain rfl := HX.out hv
        clear HAL hv
        go_wp2_with fail
        go_ret
        exact ⟨rfl, hB⟩
    · obtain rfl : q = 5 := by omega
      obtain rfl := HNT.out hall.out
      go_wp2_with fail
      go_ret
      exact ⟨rfl, hB⟩

set_option maxRecDepth 100000 in
set_option maxHeartbeats 4000000 in
theorem rest_2 (x : Evt) (hn : fields x.kind = 2) (w : World) :
    Calls Try.prog 46 #[evV x] w fun e w' => e = .returned (.bool (restB x)) ∧ Below w.heap.size w w' := by
  have HF := Lib.hid (fun W => fields_any x.kind W)
  rw [hn] at HF
  have hR : restB x = ((nums x).drop 2).all fun v => decide (v = 0) := by unfold restB many; rw [hn]; rfl
  have HNF := Lib.hid (fun (q : Nat) (hq : q < 4) (h : (nums x).getD (2 + q) 0 ≠ 0) => show restB x = false from by
    rw [hR]
    cases ha : ((nums x).drop 2).all fun v => decide (v = 0) with
    | false => rfl
    | true =>
      have hl : q < ((nums x).drop 2).length := by simp [nums]; omega
      have := List.all_eq_true.1 ha _ (List.getElem_mem hl)
      simp only [List.getElem_drop, decide_eq_true_eq] at this
      rw [List.getD_eq_getElem?_getD, List.getElem?_eq_getElem (show 2 + q < (nums x).length by simp [nums]; omega)] at h
      exact absurd (by simpa using this) h)
  have HNT := Lib.hid (fun (h : ∀ q, q < 4 → (nums x).getD (2 + q) 0 = 0) => show restB x = true from by
    rw [hR, List.all_eq_true]
    intro v hv
    obtain ⟨q, hq, rfl⟩ := List.getElem_of_mem hv
    have hq2 : q < 4 := by first | (simp [nums] at hq; done) | (simp [nums] at hq; omega)
    have := h q hq2
    rw [List.getD_eq_getElem?_getD, List.getElem?_eq_getElem (show 2 + q < (nums x).length by simp [nums]; omega)] at this
    simp only [List.getElem_drop, decide_eq_true_eq]
    simpa using this)
  have HC := Lib.hid (fun (W : World) (g : Nat) (h : Ob.Obj W g 41 (evC x)) (q : Nat) (hq : q < 4) => show W.cell? ⟨g, 5 + q, none⟩ = some (.int .i64 ((nums x).getD (2 + q) 0)) from by
    rw [h.cell (5 + q)]
    match q, hq with
    | 0, _ => rfl
    | 1, _ => rfl
    | 2, _ => rfl
    | 3, _ => rfl
    | j + 4, h2 => exact absurd h2 (by omega))
  have HP := Lib.hid (fun (W : World) (g b : Nat) (h : Ob.Obj W g 71 (ptrC b)) (q : Nat) (hq : q < 4) => show W.cell? ⟨g, 2 + q, none⟩ = some (.pointer (some ⟨b, 5 + q, none⟩)) from by
    rw [h.cell (2 + q)]
    match q, hq with
    | 0, _ => rfl
    | 1, _ => rfl
    | 2, _ => rfl
    | 3, _ => rfl
    | j + 4, h2 => exact absurd h2 (by omega))
  generalize restB x = rb at *
  generalize hNU : (fun j => (nums x).getD j 0) = NU at *
  have hNU2 : ∀ j, (nums x).getD j 0 = NU j := fun j => by rw [← hNU]
  simp only [hNU2] at HNF HNT HC
  clear hNU hNU2 hR hn
  obtain ⟨i, t, k, a, b, c, d, e, f⟩ := x
  unfold evV
  simp only at *
  have oE := Ob.Obj.new w 41 [.int .i64 i, .int .i64 t, .int .i64 k, .int .i64 a, .int .i64 b, .int .i64 c, .int .i64 d, .int .i64 e, .int .i64 f]
  have hA : Below w.heap.size w (w.alloc (.cells #[.int .i64 i, .int .i64 t, .int .i64 k, .int .i64 a, .int .i64 b, .int .i64 c, .int .i64 d, .int .i64 e, .int .i64 f] 41)) := (Below.refl _ _).alloc (Nat.le_refl _) _
  have HN := Lib.hid (fun W => numbers_any w.heap.size W)
  unfold ptrC at HN
  go_enter Try.func46, Try.ntmps46
  go_wp2_with (first
    | (go_at_call 50; (with_reducible refine (HN.out _).mono ?_); rintro e w1 ⟨rfl, hb1⟩; have hB1 := hA.trans (hb1.mono hA.size); have oE1 := oE.below hb1; have oP1 := Ob.Obj.new w1 71 (ptrC w.heap.size); have hB2 := hB1.alloc hB1.size (.cells (ptrC w.heap.size).toArray 71); have oE2 := oE1.alloc (.cells (ptrC w.heap.size).toArray 71); have c2 := oE2.cell 2; simp [ptrC] at c2; have hz2 := oP1.lt)
    | (go_at_call 45; (with_reducible refine (HF.out _).mono ?_); rintro e w3 ⟨rfl, rfl⟩))
  have HB2 := Lib.hid hB2
  have OE2 := Lib.hid oE2
  have OP2 := Lib.hid oP1
  have he2 := oE2.lt
  unfold ptrC at HB2 OE2 OP2 hz2 he2
  clear hB2 oE2 oP1 hB1 oE1 oE hA hb1 c2 HN HF
  go_loopw [12] (fun s wr => ∃ q : Nat, q ≤ 4 ∧ s = .int .i64 (q : Int) ∧ Hid (∀ j, j < q → NU (2 + j) = 0) ∧ Below w.heap.size w wr ∧ Ob.Obj wr w.heap.size 41 (evC ⟨i, t, k, a, b, c, d, e, f⟩) ∧ Ob.Obj wr w1.heap.size 71 (ptrC w.heap.size)) (fun s _ => 4 - (intOf s).toNat)
  case atStart => exact ⟨0, Nat.zero_le _, rfl, (fun j hj => absurd hj (by omega)), HB2.out, OE2.out, OP2.out⟩
  case round =>
    clear HB2 OE2 OP2 hz2 he2
    obtain ⟨q, hq, rfl, hall, hB, oE, oP⟩ := hrel
    obtain ⟨wo, rfl⟩ : ∃ wo : World, wo = wr := ⟨_, rfl⟩
    have he2 := oE.lt
    have hz2 := oP.lt
    by_cases hlt : q < 4
    · have hi1 : (0 : Int) ≤ (q : Int) ∧ (q : Int) < 4 := by omega
      have e0 := HP.out _ _ _ oP q hlt
      have e1 := HC.out _ _ oE q hlt
      have HX := Lib.hid (HNF.out q hlt)
      have HAL := Lib.hid (fun (h : NU (2 + q) = 0) j (hj : j < q + 1) => show NU (2 + j) = 0 from if hjq : j = q then (by rw [hjq]; exact h) else hall.out j (by omega))
      clear hall HC HP HNF HNT
      generalize NU (2 + q) = v at *
      by_cases hv : v = 0
      · subst hv
        have HAL2 := Lib.hid (HAL.out rfl)
        clear HAL HX
        go_wp2_with fail
        go_roundw
        case rel => exact ⟨q + 1, by omega, by go_num, HAL2, hB, oE, oP⟩
        case measure => simp [intOf]; omega
      · have hvb : (v != 0) = true := by simpa using hv
        obtain rfl := HX.out hv
        clear HAL hv
        go_wp2_with fail
        go_ret
        exact ⟨rfl, hB⟩
    · obtain rfl : q = 4 := by omega
      obtain rfl := HNT.out hall.out
      go_wp2_with fail
      go_ret
      exact ⟨rfl, hB⟩

set_option maxRecDepth 100000 in
set_option maxHeartbeats 4000000 in
theorem rest_3 (x : Evt) (hn : fields x.kind = 3) (w : World) :
    Calls Try.prog 46 #[evV x] w fun e w' => e = .returned (.bool (restB x)) ∧ Below w.heap.size w w' := by
  have HF := Lib.hid (fun W => fields_any x.kind W)
  rw [hn] at HF
  have hR : restB x = ((nums x).drop 3).all fun v => decide (v = 0) := by unfold restB many; rw [hn]; rfl
  have HNF := Lib.hid (fun (q : Nat) (hq : q < 3) (h : (nums x).getD (3 + q) 0 ≠ 0) => show restB x = false from by
    rw [hR]
    cases ha : ((nums x).drop 3).all fun v => decide (v = 0) with
    | false => rfl
    | true =>
      have hl : q < ((nums x).drop 3).length := by simp [nums]; omega
      have := List.all_eq_true.1 ha _ (List.getElem_mem hl)
      simp only [List.getElem_drop, decide_eq_true_eq] at this
      rw [List.getD_eq_getElem?_getD, List.getElem?_eq_getElem (show 3 + q < (nums x).length by simp [nums]; omega)] at h
      exact absurd (by simpa using this) h)
  have HNT := Lib.hid (fun (h : ∀ q, q < 3 → (nums x).getD (3 + q) 0 = 0) => show restB x = true from by
    rw [hR, List.all_eq_true]
    intro v hv
    obtain ⟨q, hq, rfl⟩ := List.getElem_of_mem hv
    have hq2 : q < 3 := by first | (simp [nums] at hq; done) | (simp [nums] at hq; omega)
    have := h q hq2
    rw [List.getD_eq_getElem?_getD, List.getElem?_eq_getElem (show 3 + q < (nums x).length by simp [nums]; omega)] at this
    simp only [List.getElem_drop, decide_eq_true_eq]
    simpa using this)
  have HC := Lib.hid (fun (W : World) (g : Nat) (h : Ob.Obj W g 41 (evC x)) (q : Nat) (hq : q < 3) => show W.cell? ⟨g, 6 + q, none⟩ = some (.int .i64 ((nums x).getD (3 + q) 0)) from by
    rw [h.cell (6 + q)]
    match q, hq with
    | 0, _ => rfl
    | 1, _ => rfl
    | 2, _ => rfl
    | j + 3, h2 => exact absurd h2 (by omega))
  have HP := Lib.hid (fun (W : World) (g b : Nat) (h : Ob.Obj W g 71 (ptrC b)) (q : Nat) (hq : q < 3) => show W.cell? ⟨g, 3 + q, none⟩ = some (.pointer (some ⟨b, 6 + q, none⟩)) from by
    rw [h.cell (3 + q)]
    match q, hq with
    | 0, _ => rfl
    | 1, _ => rfl
    | 2, _ => rfl
    | j + 3, h2 => exact absurd h2 (by omega))
  generalize restB x = rb at *
  generalize hNU : (fun j => (nums x).getD j 0) = NU at *
  have hNU2 : ∀ j, (nums x).getD j 0 = NU j := fun j => by rw [← hNU]
  simp only [hNU2] at HNF HNT HC
  clear hNU hNU2 hR hn
  obtain ⟨i, t, k, a, b, c, d, e, f⟩ := x
  unfold evV
  simp only at *
  have oE := Ob.Obj.new w 41 [.int .i64 i, .int .i64 t, .int .i64 k, .int .i64 a, .int .i64 b, .int .i64 c, .int .i64 d, .int .i64 e, .int .i64 f]
  have hA : Below w.heap.size w (w.alloc (.cells #[.int .i64 i, .int .i64 t, .int .i64 k, .int .i64 a, .int .i64 b, .int .i64 c, .int .i64 d, .int .i64 e, .int .i64 f] 41)) := (Below.refl _ _).alloc (Nat.le_refl _) _
  have HN := Lib.hid (fun W => numbers_any w.heap.size W)
  unfold ptrC at HN
  go_enter Try.func46, Try.ntmps46
  go_wp2_with (first
    | (go_at_call 50; (with_reducible refine (HN.out _).mono ?_); rintro e w1 ⟨rfl, hb1⟩; have hB1 := hA.trans (hb1.mono hA.size); have oE1 := oE.below hb1; have oP1 := Ob.Obj.new w1 71 (ptrC w.heap.size); have hB2 := hB1.alloc hB1.size (.cells (ptrC w.heap.size).toArray 71); have oE2 := oE1.alloc (.cells (ptrC w.heap.size).toArray 71); have c2 := oE2.cell 2; simp [ptrC] at c2; have hz2 := oP1.lt)
    | (go_at_call 45; (with_reducible refine (HF.out _).mono ?_); rintro e w3 ⟨rfl, rfl⟩))
  have HB2 := Lib.hid hB2
  have OE2 := Lib.hid oE2
  have OP2 := Lib.hid oP1
  have he2 := oE2.lt
  unfold ptrC at HB2 OE2 OP2 hz2 he2
  clear hB2 oE2 oP1 hB1 oE1 oE hA hb1 c2 HN HF
  go_loopw [12] (fun s wr => ∃ q : Nat, q ≤ 3 ∧ s = .int .i64 (q : Int) ∧ Hid (∀ j, j < q → NU (3 + j) = 0) ∧ Below w.heap.size w wr ∧ Ob.Obj wr w.heap.size 41 (evC ⟨i, t, k, a, b, c, d, e, f⟩) ∧ Ob.Obj wr w1.heap.size 71 (ptrC w.heap.size)) (fun s _ => 3 - (intOf s).toNat)
  case atStart => exact ⟨0, Nat.zero_le _, rfl, (fun j hj => absurd hj (by omega)), HB2.out, OE2.out, OP2.out⟩
  case round =>
    clear HB2 OE2 OP2 hz2 he2
    obtain ⟨q, hq, rfl, hall, hB, oE, oP⟩ := hrel
    obtain ⟨wo, rfl⟩ : ∃ wo : World, wo = wr := ⟨_, rfl⟩
    have he2 := oE.lt
    have hz2 := oP.lt
    by_cases hlt : q < 3
    · have hi1 : (0 : Int) ≤ (q : Int) ∧ (q : Int) < 3 := by omega
      have e0 := HP.out _ _ _ oP q hlt
      have e1 := HC.out _ _ oE q hlt
      have HX := Lib.hid (HNF.out q hlt)
      have HAL := Lib.hid (fun (h : NU (3 + q) = 0) j (hj : j < q + 1) => show NU (3 + j) = 0 from if hjq : j = q then (by rw [hjq]; exact h) else hall.out j (by omega))
      clear hall HC HP HNF HNT
      generalize NU (3 + q) = v at *
      by_cases hv : v = 0
      · subst hv
        have HAL2 := Lib.hid (HAL.out rfl)
        clear HAL HX
        go_wp2_with fail
        go_roundw
        case rel => exact ⟨q + 1, by omega, by go_num, HAL2, hB, oE, oP⟩
        case measure => simp [intOf]; omega
      · have hvb : (v != 0) = true := by simpa using hv
        obtain rfl := HX.out hv
        clear HAL hv
        go_wp2_with fail
        go_ret
        exact ⟨rfl, hB⟩
    · obtain rfl : q = 3 := by omega
      obtain rfl := HNT.out hall.out
      go_wp2_with fail
      go_ret
      exact ⟨rfl, hB⟩

set_option maxRecDepth 100000 in
set_option maxHeartbeats 4000000 in
theorem rest_6 (x : Evt) (hn : fields x.kind = 6) (w : World) :
    Calls Try.prog 46 #[evV x] w fun e w' => e = .returned (.bool (restB x)) ∧ Below w.heap.size w w' := by
  have HF := Lib.hid (fun W => fields_any x.kind W)
  rw [hn] at HF
  have hR : restB x = ((nums x).drop 6).all fun v => decide (v = 0) := by unfold restB many; rw [hn]; rfl
  have HNF := Lib.hid (fun (q : Nat) (hq : q < 0) (h : (nums x).getD (6 + q) 0 ≠ 0) => show restB x = false from by
    rw [hR]
    cases ha : ((nums x).drop 6).all fun v => decide (v = 0) with
    | false => rfl
    | true =>
      have hl : q < ((nums x).drop 6).length := by simp [nums]; omega
      have := List.all_eq_true.1 ha _ (List.getElem_mem hl)
      simp only [List.getElem_drop, decide_eq_true_eq] at this
      rw [List.getD_eq_getElem?_getD, List.getElem?_eq_getElem (show 6 + q < (nums x).length by simp [nums]; omega)] at h
      exact absurd (by simpa using this) h)
  have HNT := Lib.hid (fun (h : ∀ q, q < 0 → (nums x).getD (6 + q) 0 = 0) => show restB x = true from by
    rw [hR, List.all_eq_true]
    intro v hv
    obtain ⟨q, hq, rfl⟩ := List.getElem_of_mem hv
    have hq2 : q < 0 := by first | (simp [nums] at hq; done) | (simp [nums] at hq; omega)
    have := h q hq2
    rw [List.getD_eq_getElem?_getD, List.getElem?_eq_getElem (show 6 + q < (nums x).length by simp [nums]; omega)] at this
    simp only [List.getElem_drop, decide_eq_true_eq]
    simpa using this)
  have HC := Lib.hid (fun (W : World) (g : Nat) (h : Ob.Obj W g 41 (evC x)) (q : Nat) (hq : q < 0) => show W.cell? ⟨g, 9 + q, none⟩ = some (.int .i64 ((nums x).getD (6 + q) 0)) from by
    rw [h.cell (9 + q)]
    match q, hq with

    | j, h2 => exact absurd h2 (by omega))
  have HP := Lib.hid (fun (W : World) (g b : Nat) (h : Ob.Obj W g 71 (ptrC b)) (q : Nat) (hq : q < 0) => show W.cell? ⟨g, 6 + q, none⟩ = some (.pointer (some ⟨b, 9 + q, none⟩)) from by
    rw [h.cell (6 + q)]
    match q, hq with

    | j, h2 => exact absurd h2 (by omega))
  generalize restB x = rb at *
  generalize hNU : (fun j => (nums x).getD j 0) = NU at *
  have hNU2 : ∀ j, (nums x).getD j 0 = NU j := fun j => by rw [← hNU]
  simp only [hNU2] at HNF HNT HC
  clear hNU hNU2 hR hn
  obtain ⟨i, t, k, a, b, c, d, e, f⟩ := x
  unfold evV
  simp only at *
  have oE := Ob.Obj.new w 41 [.int .i64 i, .int .i64 t, .int .i64 k, .int .i64 a, .int .i64 b, .int .i64 c, .int .i64 d, .int .i64 e, .int .i64 f]
  have hA : Below w.heap.size w (w.alloc (.cells #[.int .i64 i, .int .i64 t, .int .i64 k, .int .i64 a, .int .i64 b, .int .i64 c, .int .i64 d, .int .i64 e, .int .i64 f] 41)) := (Below.refl _ _).alloc (Nat.le_refl _) _
  have HN := Lib.hid (fun W => numbers_any w.heap.size W)
  unfold ptrC at HN
  go_enter Try.func46, Try.ntmps46
  go_wp2_with (first
    | (go_at_call 50; (with_reducible refine (HN.out _).mono ?_); rintro e w1 ⟨rfl, hb1⟩; have hB1 := hA.trans (hb1.mono hA.size); have oE1 := oE.below hb1; have oP1 := Ob.Obj.new w1 71 (ptrC w.heap.size); have hB2 := hB1.alloc hB1.size (.cells (ptrC w.heap.size).toArray 71); have oE2 := oE1.alloc (.cells (ptrC w.heap.size).toArray 71); have c2 := oE2.cell 2; simp [ptrC] at c2; have hz2 := oP1.lt)
    | (go_at_call 45; (with_reducible refine (HF.out _).mono ?_); rintro e w3 ⟨rfl, rfl⟩))
  have HB2 := Lib.hid hB2
  have OE2 := Lib.hid oE2
  have OP2 := Lib.hid oP1
  have he2 := oE2.lt
  unfold ptrC at HB2 OE2 OP2 hz2 he2
  clear hB2 oE2 oP1 hB1 oE1 oE hA hb1 c2 HN HF
  go_loopw [12] (fun s wr => ∃ q : Nat, q ≤ 0 ∧ s = .int .i64 (q : Int) ∧ Hid (∀ j, j < q → NU (6 + j) = 0) ∧ Below w.heap.size w wr ∧ Ob.Obj wr w.heap.size 41 (evC ⟨i, t, k, a, b, c, d, e, f⟩) ∧ Ob.Obj wr w1.heap.size 71 (ptrC w.heap.size)) (fun s _ => 0 - (intOf s).toNat)
  case atStart => exact ⟨0, Nat.zero_le _, rfl, (fun j hj => absurd hj (by omega)), HB2.out, OE2.out, OP2.out⟩
  case round =>
    clear HB2 OE2 OP2 hz2 he2
    obtain ⟨q, hq, rfl, hall, hB, oE, oP⟩ := hrel
    obtain ⟨wo, rfl⟩ : ∃ wo : World, wo = wr := ⟨_, rfl⟩
    have he2 := oE.lt
    have hz2 := oP.lt
    by_cases hlt : q < 0
    · exact absurd hlt (by omega)
    · obtain rfl : q = 0 := by omega
      obtain rfl := HNT.out hall.out
      go_wp2_with fail
      go_ret
      exact ⟨rfl, hB⟩

theorem rest_any (x : Evt) (h : 0 ≤ fields x.kind) (w : World) :
    Calls Try.prog 46 #[evV x] w fun e w' => e = .returned (.bool (restB x)) ∧ Below w.heap.size w w' := by
  rcases fields_which h with h | h | h | h | h
  · exact rest_0 x h w
  · exact rest_1 x h w
  · exact rest_2 x h w
  · exact rest_3 x h w
  · exact rest_6 x h w

end Ev
end Go.Proofs.Ytdaafledkloegaa

/-
  The program's wordsMayBe, numbersMayBe, Valid (P14.2).
-/
namespace Go.Proofs.Ytdaafledkloegaa
open Go.RowKit
set_option linter.unusedSimpArgs false
set_option linter.unusedVariables false
namespace Ev

set_option maxRecDepth 100000 in
set_option maxHeartbeats 4000000 in
theorem words_0 (x : Evt) (hk : x.kind = 2 ∨ x.kind = 6 ∨ x.kind = 7 ∨ x.kind = 8 ∨ x.kind = 12 ∨ x.kind = 13 ∨ x.kind = 25 ∨ x.kind = 27 ∨ x.kind = 29) (w : World) :
    Calls Try.prog 52 #[evV x] w fun e w' => e = .returned (.bool (wordsB x.kind x.b x.c)) ∧ Below w.heap.size w w' := by
  obtain ⟨i, t, k, a, b, c, d, e, f⟩ := x
  simp only at *
  unfold evV
  have oE := Ob.Obj.new w 41 [.int .i64 i, .int .i64 t, .int .i64 k, .int .i64 a, .int .i64 b, .int .i64 c, .int .i64 d, .int .i64 e, .int .i64 f]
  have hA : Below w.heap.size w (w.alloc (.cells #[.int .i64 i, .int .i64 t, .int .i64 k, .int .i64 a, .int .i64 b, .int .i64 c, .int .i64 d, .int .i64 e, .int .i64 f] 41)) := (Below.refl _ _).alloc (Nat.le_refl _) _
  have c0 := oE.cell 0
  have c1 := oE.cell 1
  have c2 := oE.cell 2
  have c3 := oE.cell 3
  have c4 := oE.cell 4
  have c5 := oE.cell 5
  have c6 := oE.cell 6
  have c7 := oE.cell 7
  have c8 := oE.cell 8
  simp at c0 c1 c2 c3 c4 c5 c6 c7 c8
  have hz := oE.lt
  rcases hk with rfl | rfl | rfl | rfl | rfl | rfl | rfl | rfl | rfl
  all_goals
    go_enter Try.func52, Try.ntmps52
    go_wp2_with fail
    go_ret
    exact ⟨rfl, hA⟩

set_option maxRecDepth 100000 in
set_option maxHeartbeats 4000000 in
theorem words_9 (x : Evt) (hk : x.kind = 9) (w : World) :
    Calls Try.prog 52 #[evV x] w fun e w' => e = .returned (.bool (wordsB x.kind x.b x.c)) ∧ Below w.heap.size w w' := by
  obtain ⟨i, t, k, a, b, c, d, e, f⟩ := x
  simp only at *
  unfold evV
  have oE := Ob.Obj.new w 41 [.int .i64 i, .int .i64 t, .int .i64 k, .int .i64 a, .int .i64 b, .int .i64 c, .int .i64 d, .int .i64 e, .int .i64 f]
  have hA : Below w.heap.size w (w.alloc (.cells #[.int .i64 i, .int .i64 t, .int .i64 k, .int .i64 a, .int .i64 b, .int .i64 c, .int .i64 d, .int .i64 e, .int .i64 f] 41)) := (Below.refl _ _).alloc (Nat.le_refl _) _
  have c0 := oE.cell 0
  have c1 := oE.cell 1
  have c2 := oE.cell 2
  have c3 := oE.cell 3
  have c4 := oE.cell 4
  have c5 := oE.cell 5
  have c6 := oE.cell 6
  have c7 := oE.cell 7
  have c8 := oE.cell 8
  simp at c0 c1 c2 c3 c4 c5 c6 c7 c8
  have hz := oE.lt
  subst hk
  have HW := Lib.hid (fun W => within_any b 0 7 W)
  go_enter Try.func52, Try.ntmps52
  go_wp2_with (go_at_call 44; (with_reducible refine (HW.out _).mono ?_); rintro e w1 ⟨rfl, rfl⟩)
  go_ret
  exact ⟨rfl, hA⟩

set_option maxRecDepth 100000 in
set_option maxHeartbeats 4000000 in
theorem words_14 (x : Evt) (hk : x.kind = 14) (w : World) :
    Calls Try.prog 52 #[evV x] w fun e w' => e = .returned (.bool (wordsB x.kind x.b x.c)) ∧ Below w.heap.size w w' := by
  obtain ⟨i, t, k, a, b, c, d, e, f⟩ := x
  simp only at *
  unfold evV
  have oE := Ob.Obj.new w 41 [.int .i64 i, .int .i64 t, .int .i64 k, .int .i64 a, .int .i64 b, .int .i64 c, .int .i64 d, .int .i64 e, .int .i64 f]
  have hA : Below w.heap.size w (w.alloc (.cells #[.int .i64 i, .int .i64 t, .int .i64 k, .int .i64 a, .int .i64 b, .int .i64 c, .int .i64 d, .int .i64 e, .int .i64 f] 41)) := (Below.refl _ _).alloc (Nat.le_refl _) _
  have c0 := oE.cell 0
  have c1 := oE.cell 1
  have c2 := oE.cell 2
  have c3 := oE.cell 3
  have c4 := oE.cell 4
  have c5 := oE.cell 5
  have c6 := oE.cell 6
  have c7 := oE.cell 7
  have c8 := oE.cell 8
  simp at c0 c1 c2 c3 c4 c5 c6 c7 c8
  have hz := oE.lt
  subst hk
  have HW := Lib.hid (fun W => within_any c 0 1 W)
  go_enter Try.func52, Try.ntmps52
  go_wp2_with (go_at_call 44; (with_reducible refine (HW.out _).mono ?_); rintro e w1 ⟨rfl, rfl⟩)
  go_ret
  exact ⟨rfl, hA⟩

set_option maxRecDepth 100000 in
set_option maxHeartbeats 4000000 in
theorem words_28 (x : Evt) (hk : x.kind = 28) (w : World) :
    Calls Try.prog 52 #[evV x] w fun e w' => e = .returned (.bool (wordsB x.kind x.b x.c)) ∧ Below w.heap.size w w' := by
  obtain ⟨i, t, k, a, b, c, d, e, f⟩ := x
  simp only at *
  unfold evV
  have oE := Ob.Obj.new w 41 [.int .i64 i, .int .i64 t, .int .i64 k, .int .i64 a, .int .i64 b, .int .i64 c, .int .i64 d, .int .i64 e, .int .i64 f]
  have hA : Below w.heap.size w (w.alloc (.cells #[.int .i64 i, .int .i64 t, .int .i64 k, .int .i64 a, .int .i64 b, .int .i64 c, .int .i64 d, .int .i64 e, .int .i64 f] 41)) := (Below.refl _ _).alloc (Nat.le_refl _) _
  have c0 := oE.cell 0
  have c1 := oE.cell 1
  have c2 := oE.cell 2
  have c3 := oE.cell 3
  have c4 := oE.cell 4
  have c5 := oE.cell 5
  have c6 := oE.cell 6
  have c7 := oE.cell 7
  have c8 := oE.cell 8
  simp at c0 c1 c2 c3 c4 c5 c6 c7 c8
  have hz := oE.lt
  subst hk
  have HW := Lib.hid (fun W => within_any c 0 4 W)
  go_enter Try.func52, Try.ntmps52
  go_wp2_with (go_at_call 44; (with_reducible refine (HW.out _).mono ?_); rintro e w1 ⟨rfl, rfl⟩)
  go_ret
  exact ⟨rfl, hA⟩

set_option maxRecDepth 100000 in
set_option maxHeartbeats 4000000 in
theorem words_26 (x : Evt) (hk : x.kind = 26) (w : World) :
    Calls Try.prog 52 #[evV x] w fun e w' => e = .returned (.bool (wordsB x.kind x.b x.c)) ∧ Below w.heap.size w w' := by
  obtain ⟨i, t, k, a, b, c, d, e, f⟩ := x
  simp only at *
  unfold evV
  have oE := Ob.Obj.new w 41 [.int .i64 i, .int .i64 t, .int .i64 k, .int .i64 a, .int .i64 b, .int .i64 c, .int .i64 d, .int .i64 e, .int .i64 f]
  have hA : Below w.heap.size w (w.alloc (.cells #[.int .i64 i, .int .i64 t, .int .i64 k, .int .i64 a, .int .i64 b, .int .i64 c, .int .i64 d, .int .i64 e, .int .i64 f] 41)) := (Below.refl _ _).alloc (Nat.le_refl _) _
  have c0 := oE.cell 0
  have c1 := oE.cell 1
  have c2 := oE.cell 2
  have c3 := oE.cell 3
  have c4 := oE.cell 4
  have c5 := oE.cell 5
  have c6 := oE.cell 6
  have c7 := oE.cell 7
  have c8 := oE.cell 8
  simp at c0 c1 c2 c3 c4 c5 c6 c7 c8
  have hz := oE.lt
  subst hk
  all_goals
    go_enter Try.func52, Try.ntmps52
    go_wp2_with fail
    all_goals go_ret
    all_goals exact ⟨by first | rfl | (simp [wordsB]; done) | (simp [wordsB]; omega), hA⟩

set_option maxRecDepth 100000 in
set_option maxHeartbeats 4000000 in
theorem words_22 (x : Evt) (hk : x.kind = 22 ∨ x.kind = 23) (w : World) :
    Calls Try.prog 52 #[evV x] w fun e w' => e = .returned (.bool (wordsB x.kind x.b x.c)) ∧ Below w.heap.size w w' := by
  obtain ⟨i, t, k, a, b, c, d, e, f⟩ := x
  simp only at *
  unfold evV
  have oE := Ob.Obj.new w 41 [.int .i64 i, .int .i64 t, .int .i64 k, .int .i64 a, .int .i64 b, .int .i64 c, .int .i64 d, .int .i64 e, .int .i64 f]
  have hA : Below w.heap.size w (w.alloc (.cells #[.int .i64 i, .int .i64 t, .int .i64 k, .int .i64 a, .int .i64 b, .int .i64 c, .int .i64 d, .int .i64 e, .int .i64 f] 41)) := (Below.refl _ _).alloc (Nat.le_refl _) _
  have c0 := oE.cell 0
  have c1 := oE.cell 1
  have c2 := oE.cell 2
  have c3 := oE.cell 3
  have c4 := oE.cell 4
  have c5 := oE.cell 5
  have c6 := oE.cell 6
  have c7 := oE.cell 7
  have c8 := oE.cell 8
  simp at c0 c1 c2 c3 c4 c5 c6 c7 c8
  have hz := oE.lt
  rcases hk with rfl | rfl
  all_goals
    go_enter Try.func52, Try.ntmps52
    go_wp2_with fail
    all_goals go_ret
    all_goals exact ⟨by first | rfl | (simp [wordsB]; done) | (simp [wordsB]; omega), hA⟩

set_option maxRecDepth 100000 in
set_option maxHeartbeats 4000000 in
theorem words_24 (x : Evt) (hk : x.kind = 24) (w : World) :
    Calls Try.prog 52 #[evV x] w fun e w' => e = .returned (.bool (wordsB x.kind x.b x.c)) ∧ Below w.heap.size w w' := by
  obtain ⟨i, t, k, a, b, c, d, e, f⟩ := x
  simp only at *
  unfold evV
  have oE := Ob.Obj.new w 41 [.int .i64 i, .int .i64 t, .int .i64 k, .int .i64 a, .int .i64 b, .int .i64 c, .int .i64 d, .int .i64 e, .int .i64 f]
  have hA : Below w.heap.size w (w.alloc (.cells #[.int .i64 i, .int .i64 t, .int .i64 k, .int .i64 a, .int .i64 b, .int .i64 c, .int .i64 d, .int .i64 e, .int .i64 f] 41)) := (Below.refl _ _).alloc (Nat.le_refl _) _
  have c0 := oE.cell 0
  have c1 := oE.cell 1
  have c2 := oE.cell 2
  have c3 := oE.cell 3
  have c4 := oE.cell 4
  have c5 := oE.cell 5
  have c6 := oE.cell 6
  have c7 := oE.cell 7
  have c8 := oE.cell 8
  simp at c0 c1 c2 c3 c4 c5 c6 c7 c8
  have hz := oE.lt
  subst hk
  have HW := Lib.hid (fun W => within_any b 1 4 W)
  have HS := Lib.hid (show wordsB 24 b c = (win b 1 4 && decide (1 ≤ c)) from rfl)
  cases hb : win b 1 4 with
  | false =>
    rw [hb] at HW HS
    clear hb
    go_enter Try.func52, Try.ntmps52
    go_wp2_with (go_at_call 44; (with_reducible refine (HW.out _).mono ?_); rintro e w1 ⟨rfl, rfl⟩)
    go_ret
    exact ⟨by rw [HS.out]; rfl, hA⟩
  | true =>
    rw [hb] at HW HS
    clear hb
    go_enter Try.func52, Try.ntmps52
    go_wp2_with (go_at_call 44; (with_reducible refine (HW.out _).mono ?_); rintro e w1 ⟨rfl, rfl⟩)
    go_ret
    exact ⟨by rw [HS.out, Bool.true_and]; rfl, hA⟩

theorem words_any (x : Evt) (hk : x.kind = 2 ∨ x.kind = 6 ∨ x.kind = 7 ∨ x.kind = 8 ∨ x.kind = 9 ∨ x.kind = 12 ∨ x.kind = 13 ∨ x.kind = 14 ∨ x.kind = 22 ∨ x.kind = 23 ∨ x.kind = 24 ∨ x.kind = 25 ∨ x.kind = 26 ∨ x.kind = 27 ∨ x.kind = 28 ∨ x.kind = 29) (w : World) :
    Calls Try.prog 52 #[evV x] w fun e w' => e = .returned (.bool (wordsB x.kind x.b x.c)) ∧ Below w.heap.size w w' := by
  rcases hk with h | h | h | h | h | h | h | h | h | h | h | h | h | h | h | h
  · exact words_0 x (by omega) w
  · exact words_0 x (by omega) w
  · exact words_0 x (by omega) w
  · exact words_0 x (by omega) w
  · exact words_9 x h w
  · exact words_0 x (by omega) w
  · exact words_0 x (by omega) w
  · exact words_14 x h w
  · exact words_22 x (by omega) w
  · exact words_22 x (by omega) w
  · exact words_24 x h w
  · exact words_0 x (by omega) w
  · exact words_26 x h w
  · exact words_0 x (by omega) w
  · exact words_28 x h w
  · exact words_0 x (by omega) w

set_option maxRecDepth 100000 in
set_option maxHeartbeats 4000000 in
theorem nmb_0 (x : Evt) (hk : x.kind = 11 ∨ x.kind = 15 ∨ x.kind = 16 ∨ x.kind = 17 ∨ x.kind = 30 ∨ x.kind = 31) (w : World) :
    Calls Try.prog 47 #[evV x] w fun e w' => e = .returned (.bool (nmbB x)) ∧ Below w.heap.size w w' := by
  obtain ⟨i, t, k, a, b, c, d, e, f⟩ := x
  simp only at *
  unfold evV
  have oE := Ob.Obj.new w 41 [.int .i64 i, .int .i64 t, .int .i64 k, .int .i64 a, .int .i64 b, .int .i64 c, .int .i64 d, .int .i64 e, .int .i64 f]
  have hA : Below w.heap.size w (w.alloc (.cells #[.int .i64 i, .int .i64 t, .int .i64 k, .int .i64 a, .int .i64 b, .int .i64 c, .int .i64 d, .int .i64 e, .int .i64 f] 41)) := (Below.refl _ _).alloc (Nat.le_refl _) _
  have c0 := oE.cell 0
  have c1 := oE.cell 1
  have c2 := oE.cell 2
  have c3 := oE.cell 3
  have c4 := oE.cell 4
  have c5 := oE.cell 5
  have c6 := oE.cell 6
  have c7 := oE.cell 7
  have c8 := oE.cell 8
  simp at c0 c1 c2 c3 c4 c5 c6 c7 c8
  have hz := oE.lt
  rcases hk with rfl | rfl | rfl | rfl | rfl | rfl
  all_goals
    go_enter Try.func47, Try.ntmps47
    go_wp2_with fail
    go_ret
    exact ⟨rfl, hA⟩

set_option maxRecDepth 100000 in
set_option maxHeartbeats 4000000 in
theorem nmb_3 (x : Evt) (hk : x.kind = 3) (w : World) :
    Calls Try.prog 47 #[evV x] w fun e w' => e = .returned (.bool (nmbB x)) ∧ Below w.heap.size w w' := by
  obtain ⟨i, t, k, a, b, c, d, e, f⟩ := x
  simp only at *
  unfold evV
  have oE := Ob.Obj.new w 41 [.int .i64 i, .int .i64 t, .int .i64 k, .int .i64 a, .int .i64 b, .int .i64 c, .int .i64 d, .int .i64 e, .int .i64 f]
  have hA : Below w.heap.size w (w.alloc (.cells #[.int .i64 i, .int .i64 t, .int .i64 k, .int .i64 a, .int .i64 b, .int .i64 c, .int .i64 d, .int .i64 e, .int .i64 f] 41)) := (Below.refl _ _).alloc (Nat.le_refl _) _
  have c0 := oE.cell 0
  have c1 := oE.cell 1
  have c2 := oE.cell 2
  have c3 := oE.cell 3
  have c4 := oE.cell 4
  have c5 := oE.cell 5
  have c6 := oE.cell 6
  have c7 := oE.cell 7
  have c8 := oE.cell 8
  simp at c0 c1 c2 c3 c4 c5 c6 c7 c8
  have hz := oE.lt
  subst hk
  have HW := Lib.hid (fun W => within_any a 0 7 W)
  go_enter Try.func47, Try.ntmps47
  go_wp2_with (go_at_call 44; (with_reducible refine (HW.out _).mono ?_); rintro e w1 ⟨rfl, rfl⟩)
  go_ret
  exact ⟨rfl, hA⟩

set_option maxRecDepth 100000 in
set_option maxHeartbeats 4000000 in
theorem nmb_10 (x : Evt) (hk : x.kind = 10) (w : World) :
    Calls Try.prog 47 #[evV x] w fun e w' => e = .returned (.bool (nmbB x)) ∧ Below w.heap.size w w' := by
  obtain ⟨i, t, k, a, b, c, d, e, f⟩ := x
  simp only at *
  unfold evV
  have oE := Ob.Obj.new w 41 [.int .i64 i, .int .i64 t, .int .i64 k, .int .i64 a, .int .i64 b, .int .i64 c, .int .i64 d, .int .i64 e, .int .i64 f]
  have hA : Below w.heap.size w (w.alloc (.cells #[.int .i64 i, .int .i64 t, .int .i64 k, .int .i64 a, .int .i64 b, .int .i64 c, .int .i64 d, .int .i64 e, .int .i64 f] 41)) := (Below.refl _ _).alloc (Nat.le_refl _) _
  have c0 := oE.cell 0
  have c1 := oE.cell 1
  have c2 := oE.cell 2
  have c3 := oE.cell 3
  have c4 := oE.cell 4
  have c5 := oE.cell 5
  have c6 := oE.cell 6
  have c7 := oE.cell 7
  have c8 := oE.cell 8
  simp at c0 c1 c2 c3 c4 c5 c6 c7 c8
  have hz := oE.lt
  subst hk
  have HW := Lib.hid (fun W => within_any a 0 3 W)
  go_enter Try.func47, Try.ntmps47
  go_wp2_with (go_at_call 44; (with_reducible refine (HW.out _).mono ?_); rintro e w1 ⟨rfl, rfl⟩)
  go_ret
  exact ⟨rfl, hA⟩

set_option maxRecDepth 100000 in
set_option maxHeartbeats 4000000 in
theorem nmb_5 (x : Evt) (hk : x.kind = 5) (w : World) :
    Calls Try.prog 47 #[evV x] w fun e w' => e = .returned (.bool (nmbB x)) ∧ Below w.heap.size w w' := by
  obtain ⟨i, t, k, a, b, c, d, e, f⟩ := x
  simp only at *
  unfold evV
  have oE := Ob.Obj.new w 41 [.int .i64 i, .int .i64 t, .int .i64 k, .int .i64 a, .int .i64 b, .int .i64 c, .int .i64 d, .int .i64 e, .int .i64 f]
  have hA : Below w.heap.size w (w.alloc (.cells #[.int .i64 i, .int .i64 t, .int .i64 k, .int .i64 a, .int .i64 b, .int .i64 c, .int .i64 d, .int .i64 e, .int .i64 f] 41)) := (Below.refl _ _).alloc (Nat.le_refl _) _
  have c0 := oE.cell 0
  have c1 := oE.cell 1
  have c2 := oE.cell 2
  have c3 := oE.cell 3
  have c4 := oE.cell 4
  have c5 := oE.cell 5
  have c6 := oE.cell 6
  have c7 := oE.cell 7
  have c8 := oE.cell 8
  simp at c0 c1 c2 c3 c4 c5 c6 c7 c8
  have hz := oE.lt
  subst hk
  have HW := Lib.hid (fun W => within_any a 0 7 W)
  go_enter Try.func47, Try.ntmps47
  go_wp2_with (go_at_call 44; (with_reducible refine (HW.out _).mono ?_); rintro e w1 ⟨rfl, rfl⟩)
  go_ret
  exact ⟨rfl, hA⟩

set_option maxRecDepth 100000 in
set_option maxHeartbeats 4000000 in
theorem nmb_18 (x : Evt) (hk : x.kind = 18) (w : World) :
    Calls Try.prog 47 #[evV x] w fun e w' => e = .returned (.bool (nmbB x)) ∧ Below w.heap.size w w' := by
  obtain ⟨i, t, k, a, b, c, d, e, f⟩ := x
  simp only at *
  unfold evV
  have oE := Ob.Obj.new w 41 [.int .i64 i, .int .i64 t, .int .i64 k, .int .i64 a, .int .i64 b, .int .i64 c, .int .i64 d, .int .i64 e, .int .i64 f]
  have hA : Below w.heap.size w (w.alloc (.cells #[.int .i64 i, .int .i64 t, .int .i64 k, .int .i64 a, .int .i64 b, .int .i64 c, .int .i64 d, .int .i64 e, .int .i64 f] 41)) := (Below.refl _ _).alloc (Nat.le_refl _) _
  have c0 := oE.cell 0
  have c1 := oE.cell 1
  have c2 := oE.cell 2
  have c3 := oE.cell 3
  have c4 := oE.cell 4
  have c5 := oE.cell 5
  have c6 := oE.cell 6
  have c7 := oE.cell 7
  have c8 := oE.cell 8
  simp at c0 c1 c2 c3 c4 c5 c6 c7 c8
  have hz := oE.lt
  subst hk
  go_enter Try.func47, Try.ntmps47
  go_wp2_with fail
  go_ret
  exact ⟨rfl, hA⟩

set_option maxRecDepth 100000 in
set_option maxHeartbeats 4000000 in
theorem nmb_4 (x : Evt) (hk : x.kind = 4) (w : World) :
    Calls Try.prog 47 #[evV x] w fun e w' => e = .returned (.bool (nmbB x)) ∧ Below w.heap.size w w' := by
  obtain ⟨i, t, k, a, b, c, d, e, f⟩ := x
  simp only at *
  unfold evV
  have oE := Ob.Obj.new w 41 [.int .i64 i, .int .i64 t, .int .i64 k, .int .i64 a, .int .i64 b, .int .i64 c, .int .i64 d, .int .i64 e, .int .i64 f]
  have hA : Below w.heap.size w (w.alloc (.cells #[.int .i64 i, .int .i64 t, .int .i64 k, .int .i64 a, .int .i64 b, .int .i64 c, .int .i64 d, .int .i64 e, .int .i64 f] 41)) := (Below.refl _ _).alloc (Nat.le_refl _) _
  have c0 := oE.cell 0
  have c1 := oE.cell 1
  have c2 := oE.cell 2
  have c3 := oE.cell 3
  have c4 := oE.cell 4
  have c5 := oE.cell 5
  have c6 := oE.cell 6
  have c7 := oE.cell 7
  have c8 := oE.cell 8
  simp at c0 c1 c2 c3 c4 c5 c6 c7 c8
  have hz := oE.lt
  subst hk
  have oE2 := oE.alloc (.cells #[.int .i64 a] 2)
  have oN := Ob.Obj.new (w.alloc (.cells #[.int .i64 i, .int .i64 t, .int .i64 4, .int .i64 a, .int .i64 b, .int .i64 c, .int .i64 d, .int .i64 e, .int .i64 f] 41)) 2 [.int .i64 a]
  have hA2 := hA.alloc hA.size (.cells #[.int .i64 a] 2)
  have d3 := oE2.cell 3
  simp at d3
  have hsz : (w.alloc (.cells #[.int .i64 i, .int .i64 t, .int .i64 4, .int .i64 a, .int .i64 b, .int .i64 c, .int .i64 d, .int .i64 e, .int .i64 f] 41)).heap.size = w.heap.size + 1 := by simp
  rw [hsz] at oN
  have HN := Lib.hid (natural_any (w.heap.size + 1) [a] 1 _ rfl oN (by simp))
  clear hsz oN oE2
  go_enter Try.func47, Try.ntmps47
  go_wp2_with (go_at_call 51; (with_reducible refine HN.out.mono ?_); rintro e w1 ⟨rfl, rfl⟩)
  go_ret
  exact ⟨by first | rfl | (simp [nmbB]; done), hA2⟩

set_option maxRecDepth 100000 in
set_option maxHeartbeats 4000000 in
theorem nmb_20 (x : Evt) (hk : x.kind = 20) (w : World) :
    Calls Try.prog 47 #[evV x] w fun e w' => e = .returned (.bool (nmbB x)) ∧ Below w.heap.size w w' := by
  obtain ⟨i, t, k, a, b, c, d, e, f⟩ := x
  simp only at *
  unfold evV
  have oE := Ob.Obj.new w 41 [.int .i64 i, .int .i64 t, .int .i64 k, .int .i64 a, .int .i64 b, .int .i64 c, .int .i64 d, .int .i64 e, .int .i64 f]
  have hA : Below w.heap.size w (w.alloc (.cells #[.int .i64 i, .int .i64 t, .int .i64 k, .int .i64 a, .int .i64 b, .int .i64 c, .int .i64 d, .int .i64 e, .int .i64 f] 41)) := (Below.refl _ _).alloc (Nat.le_refl _) _
  have c0 := oE.cell 0
  have c1 := oE.cell 1
  have c2 := oE.cell 2
  have c3 := oE.cell 3
  have c4 := oE.cell 4
  have c5 := oE.cell 5
  have c6 := oE.cell 6
  have c7 := oE.cell 7
  have c8 := oE.cell 8
  simp at c0 c1 c2 c3 c4 c5 c6 c7 c8
  have hz := oE.lt
  subst hk
  have oE2 := oE.alloc (.cells #[.int .i64 a] 2)
  have oN := Ob.Obj.new (w.alloc (.cells #[.int .i64 i, .int .i64 t, .int .i64 20, .int .i64 a, .int .i64 b, .int .i64 c, .int .i64 d, .int .i64 e, .int .i64 f] 41)) 2 [.int .i64 a]
  have hA2 := hA.alloc hA.size (.cells #[.int .i64 a] 2)
  have d3 := oE2.cell 3
  simp at d3
  have hsz : (w.alloc (.cells #[.int .i64 i, .int .i64 t, .int .i64 20, .int .i64 a, .int .i64 b, .int .i64 c, .int .i64 d, .int .i64 e, .int .i64 f] 41)).heap.size = w.heap.size + 1 := by simp
  rw [hsz] at oN
  have HN := Lib.hid (natural_any (w.heap.size + 1) [a] 1 _ rfl oN (by simp))
  clear hsz oN oE2
  go_enter Try.func47, Try.ntmps47
  go_wp2_with (go_at_call 51; (with_reducible refine HN.out.mono ?_); rintro e w1 ⟨rfl, rfl⟩)
  go_ret
  exact ⟨by first | rfl | (simp [nmbB]; done), hA2⟩

set_option maxRecDepth 100000 in
set_option maxHeartbeats 4000000 in
theorem nmb_1 (x : Evt) (hk : x.kind = 1) (w : World) :
    Calls Try.prog 47 #[evV x] w fun e w' => e = .returned (.bool (nmbB x)) ∧ Below w.heap.size w w' := by
  obtain ⟨i, t, k, a, b, c, d, e, f⟩ := x
  simp only at *
  unfold evV
  have oE := Ob.Obj.new w 41 [.int .i64 i, .int .i64 t, .int .i64 k, .int .i64 a, .int .i64 b, .int .i64 c, .int .i64 d, .int .i64 e, .int .i64 f]
  have hA : Below w.heap.size w (w.alloc (.cells #[.int .i64 i, .int .i64 t, .int .i64 k, .int .i64 a, .int .i64 b, .int .i64 c, .int .i64 d, .int .i64 e, .int .i64 f] 41)) := (Below.refl _ _).alloc (Nat.le_refl _) _
  have c0 := oE.cell 0
  have c1 := oE.cell 1
  have c2 := oE.cell 2
  have c3 := oE.cell 3
  have c4 := oE.cell 4
  have c5 := oE.cell 5
  have c6 := oE.cell 6
  have c7 := oE.cell 7
  have c8 := oE.cell 8
  simp at c0 c1 c2 c3 c4 c5 c6 c7 c8
  have hz := oE.lt
  subst hk
  have oE2 := oE.alloc (.cells #[.int .i64 c, .int .i64 d, .int .i64 e, .int .i64 f] 2)
  have oN := Ob.Obj.new (w.alloc (.cells #[.int .i64 i, .int .i64 t, .int .i64 1, .int .i64 a, .int .i64 b, .int .i64 c, .int .i64 d, .int .i64 e, .int .i64 f] 41)) 2 [.int .i64 c, .int .i64 d, .int .i64 e, .int .i64 f]
  have hA2 := hA.alloc hA.size (.cells #[.int .i64 c, .int .i64 d, .int .i64 e, .int .i64 f] 2)
  have d3 := oE2.cell 3
  simp at d3
  have hsz : (w.alloc (.cells #[.int .i64 i, .int .i64 t, .int .i64 1, .int .i64 a, .int .i64 b, .int .i64 c, .int .i64 d, .int .i64 e, .int .i64 f] 41)).heap.size = w.heap.size + 1 := by simp
  rw [hsz] at oN
  have HN := Lib.hid (natural_any (w.heap.size + 1) [c, d, e, f] 4 _ rfl oN (by simp))
  clear hsz oN oE2
  have HW := Lib.hid (fun W => within_any a 0 7 W)
  have HS := Lib.hid (show nmbB ⟨i, t, 1, a, b, c, d, e, f⟩ = (([c, d, e, f].all fun v => decide (0 ≤ v)) && win a 0 7) from rfl)
  generalize ([c, d, e, f].all fun v => decide (0 ≤ v)) = nb at *
  cases nb with
  | false =>
    go_enter Try.func47, Try.ntmps47
    go_wp2_with (first | (go_at_call 51; (with_reducible refine HN.out.mono ?_); rintro e w1 ⟨rfl, rfl⟩) | (go_at_call 44; (with_reducible refine (HW.out _).mono ?_); rintro e w1 ⟨rfl, rfl⟩))
    go_ret
    exact ⟨by rw [HS.out]; rfl, hA2⟩
  | true =>
    go_enter Try.func47, Try.ntmps47
    go_wp2_with (first | (go_at_call 51; (with_reducible refine HN.out.mono ?_); rintro e w1 ⟨rfl, rfl⟩) | (go_at_call 44; (with_reducible refine (HW.out _).mono ?_); rintro e w1 ⟨rfl, rfl⟩))
    go_ret
    exact ⟨by rw [HS.out]; rfl, hA2⟩

set_option maxRecDepth 100000 in
set_option maxHeartbeats 4000000 in
theorem nmb_19 (x : Evt) (hk : x.kind = 19) (w : World) :
    Calls Try.prog 47 #[evV x] w fun e w' => e = .returned (.bool (nmbB x)) ∧ Below w.heap.size w w' := by
  obtain ⟨i, t, k, a, b, c, d, e, f⟩ := x
  simp only at *
  unfold evV
  have oE := Ob.Obj.new w 41 [.int .i64 i, .int .i64 t, .int .i64 k, .int .i64 a, .int .i64 b, .int .i64 c, .int .i64 d, .int .i64 e, .int .i64 f]
  have hA : Below w.heap.size w (w.alloc (.cells #[.int .i64 i, .int .i64 t, .int .i64 k, .int .i64 a, .int .i64 b, .int .i64 c, .int .i64 d, .int .i64 e, .int .i64 f] 41)) := (Below.refl _ _).alloc (Nat.le_refl _) _
  have c0 := oE.cell 0
  have c1 := oE.cell 1
  have c2 := oE.cell 2
  have c3 := oE.cell 3
  have c4 := oE.cell 4
  have c5 := oE.cell 5
  have c6 := oE.cell 6
  have c7 := oE.cell 7
  have c8 := oE.cell 8
  simp at c0 c1 c2 c3 c4 c5 c6 c7 c8
  have hz := oE.lt
  subst hk
  have oE2 := oE.alloc (.cells #[.int .i64 c] 2)
  have oN := Ob.Obj.new (w.alloc (.cells #[.int .i64 i, .int .i64 t, .int .i64 19, .int .i64 a, .int .i64 b, .int .i64 c, .int .i64 d, .int .i64 e, .int .i64 f] 41)) 2 [.int .i64 c]
  have hA2 := hA.alloc hA.size (.cells #[.int .i64 c] 2)
  have d3 := oE2.cell 3
  simp at d3
  have hsz : (w.alloc (.cells #[.int .i64 i, .int .i64 t, .int .i64 19, .int .i64 a, .int .i64 b, .int .i64 c, .int .i64 d, .int .i64 e, .int .i64 f] 41)).heap.size = w.heap.size + 1 := by simp
  rw [hsz] at oN
  have HN := Lib.hid (natural_any (w.heap.size + 1) [c] 1 _ rfl oN (by simp))
  clear hsz oN oE2
  have HW := Lib.hid (fun W => within_any a 0 7 W)
  have HS := Lib.hid (show nmbB ⟨i, t, 19, a, b, c, d, e, f⟩ = (win a 0 7 && ([c].all fun v => decide (0 ≤ v))) from rfl)
  generalize ([c].all fun v => decide (0 ≤ v)) = nb at *
  generalize win a 0 7 = wb at *
  cases wb with
  | false =>
    go_enter Try.func47, Try.ntmps47
    go_wp2_with (first | (go_at_call 51; (with_reducible refine HN.out.mono ?_); rintro e w1 ⟨rfl, rfl⟩) | (go_at_call 44; (with_reducible refine (HW.out _).mono ?_); rintro e w1 ⟨rfl, rfl⟩))
    go_ret
    exact ⟨by rw [HS.out]; rfl, hA⟩
  | true =>
    go_enter Try.func47, Try.ntmps47
    go_wp2_with (first | (go_at_call 51; (with_reducible refine HN.out.mono ?_); rintro e w1 ⟨rfl, rfl⟩) | (go_at_call 44; (with_reducible refine (HW.out _).mono ?_); rintro e w1 ⟨rfl, rfl⟩))
    go_ret
    exact ⟨by rw [HS.out]; rfl, hA2⟩

set_option maxRecDepth 100000 in
set_option maxHeartbeats 4000000 in
theorem nmb_21 (x : Evt) (hk : x.kind = 21) (w : World) :
    Calls Try.prog 47 #[evV x] w fun e w' => e = .returned (.bool (nmbB x)) ∧ Below w.heap.size w w' := by
  obtain ⟨i, t, k, a, b, c, d, e, f⟩ := x
  simp only at *
  unfold evV
  have oE := Ob.Obj.new w 41 [.int .i64 i, .int .i64 t, .int .i64 k, .int .i64 a, .int .i64 b, .int .i64 c, .int .i64 d, .int .i64 e, .int .i64 f]
  have hA : Below w.heap.size w (w.alloc (.cells #[.int .i64 i, .int .i64 t, .int .i64 k, .int .i64 a, .int .i64 b, .int .i64 c, .int .i64 d, .int .i64 e, .int .i64 f] 41)) := (Below.refl _ _).alloc (Nat.le_refl _) _
  have c0 := oE.cell 0
  have c1 := oE.cell 1
  have c2 := oE.cell 2
  have c3 := oE.cell 3
  have c4 := oE.cell 4
  have c5 := oE.cell 5
  have c6 := oE.cell 6
  have c7 := oE.cell 7
  have c8 := oE.cell 8
  simp at c0 c1 c2 c3 c4 c5 c6 c7 c8
  have hz := oE.lt
  subst hk
  have oE2 := oE.alloc (.cells #[.int .i64 c] 2)
  have oN := Ob.Obj.new (w.alloc (.cells #[.int .i64 i, .int .i64 t, .int .i64 21, .int .i64 a, .int .i64 b, .int .i64 c, .int .i64 d, .int .i64 e, .int .i64 f] 41)) 2 [.int .i64 c]
  have hA2 := hA.alloc hA.size (.cells #[.int .i64 c] 2)
  have d3 := oE2.cell 3
  simp at d3
  have hsz : (w.alloc (.cells #[.int .i64 i, .int .i64 t, .int .i64 21, .int .i64 a, .int .i64 b, .int .i64 c, .int .i64 d, .int .i64 e, .int .i64 f] 41)).heap.size = w.heap.size + 1 := by simp
  rw [hsz] at oN
  have HN := Lib.hid (natural_any (w.heap.size + 1) [c] 1 _ rfl oN (by simp))
  clear hsz oN oE2
  have HW := Lib.hid (fun W => within_any a 0 7 W)
  have HS := Lib.hid (show nmbB ⟨i, t, 21, a, b, c, d, e, f⟩ = (win a 0 7 && ([c].all fun v => decide (0 ≤ v))) from rfl)
  generalize ([c].all fun v => decide (0 ≤ v)) = nb at *
  generalize win a 0 7 = wb at *
  cases wb with
  | false =>
    go_enter Try.func47, Try.ntmps47
    go_wp2_with (first | (go_at_call 51; (with_reducible refine HN.out.mono ?_); rintro e w1 ⟨rfl, rfl⟩) | (go_at_call 44; (with_reducible refine (HW.out _).mono ?_); rintro e w1 ⟨rfl, rfl⟩))
    go_ret
    exact ⟨by rw [HS.out]; rfl, hA⟩
  | true =>
    go_enter Try.func47, Try.ntmps47
    go_wp2_with (first | (go_at_call 51; (with_reducible refine HN.out.mono ?_); rintro e w1 ⟨rfl, rfl⟩) | (go_at_call 44; (with_reducible refine (HW.out _).mono ?_); rintro e w1 ⟨rfl, rfl⟩))
    go_ret
    exact ⟨by rw [HS.out]; rfl, hA2⟩

set_option maxRecDepth 100000 in
set_option maxHeartbeats 4000000 in
theorem nmb_2 (x : Evt) (hk : x.kind = 2 ∨ x.kind = 6 ∨ x.kind = 7 ∨ x.kind = 8 ∨ x.kind = 9 ∨ x.kind = 12 ∨ x.kind = 13 ∨ x.kind = 14 ∨ x.kind = 22 ∨ x.kind = 23 ∨ x.kind = 24 ∨ x.kind = 25 ∨ x.kind = 26 ∨ x.kind = 27 ∨ x.kind = 28 ∨ x.kind = 29) (w : World) :
    Calls Try.prog 47 #[evV x] w fun e w' => e = .returned (.bool (nmbB x)) ∧ Below w.heap.size w w' := by
  obtain ⟨i, t, k, a, b, c, d, e, f⟩ := x
  simp only at *
  unfold evV
  have oE := Ob.Obj.new w 41 [.int .i64 i, .int .i64 t, .int .i64 k, .int .i64 a, .int .i64 b, .int .i64 c, .int .i64 d, .int .i64 e, .int .i64 f]
  have hA : Below w.heap.size w (w.alloc (.cells #[.int .i64 i, .int .i64 t, .int .i64 k, .int .i64 a, .int .i64 b, .int .i64 c, .int .i64 d, .int .i64 e, .int .i64 f] 41)) := (Below.refl _ _).alloc (Nat.le_refl _) _
  have c0 := oE.cell 0
  have c1 := oE.cell 1
  have c2 := oE.cell 2
  have c3 := oE.cell 3
  have c4 := oE.cell 4
  have c5 := oE.cell 5
  have c6 := oE.cell 6
  have c7 := oE.cell 7
  have c8 := oE.cell 8
  simp at c0 c1 c2 c3 c4 c5 c6 c7 c8
  have hz := oE.lt
  have HWO := Lib.hid (fun W => words_any ⟨i, t, k, a, b, c, d, e, f⟩ hk W)
  unfold evV at HWO
  simp only at HWO
  have HS := Lib.hid (show nmbB ⟨i, t, k, a, b, c, d, e, f⟩ = (decide (1 ≤ a) && wordsB k b c) from by rcases hk with rfl | rfl | rfl | rfl | rfl | rfl | rfl | rfl | rfl | rfl | rfl | rfl | rfl | rfl | rfl | rfl <;> rfl)
  by_cases ha : 1 ≤ a
  · have ha2 : a ≥ 1 := ha
    have HS2 := Lib.hid (show nmbB ⟨i, t, k, a, b, c, d, e, f⟩ = wordsB k b c by rw [HS.out]; simp [ha])
    clear HS
    generalize nmbB ⟨i, t, k, a, b, c, d, e, f⟩ = nm at *
    rcases hk with rfl | rfl | rfl | rfl | rfl | rfl | rfl | rfl | rfl | rfl | rfl | rfl | rfl | rfl | rfl | rfl
    all_goals
      go_enter Try.func47, Try.ntmps47
      go_wp2_with (go_at_call 52; (with_reducible refine (HWO.out _).mono ?_); rintro e w1 ⟨rfl, hb1⟩)
      go_ret
      exact ⟨by rw [HS2.out]; rfl, hA.trans (hb1.mono hA.size)⟩
  · have ha2 : decide (a ≥ 1) = false := by simpa using ha
    have HS2 := Lib.hid (show nmbB ⟨i, t, k, a, b, c, d, e, f⟩ = false by rw [HS.out]; simp [ha])
    clear HS HWO
    generalize nmbB ⟨i, t, k, a, b, c, d, e, f⟩ = nm at *
    rcases hk with rfl | rfl | rfl | rfl | rfl | rfl | rfl | rfl | rfl | rfl | rfl | rfl | rfl | rfl | rfl | rfl
    all_goals
      go_enter Try.func47, Try.ntmps47
      go_wp2_with fail
      go_ret
      exact ⟨by rw [HS2.out]; rfl, hA⟩

theorem nmb_any (x : Evt) (h1 : 1 ≤ x.kind) (h2 : x.kind ≤ 31) (w : World) :
    Calls Try.prog 47 #[evV x] w fun e w' => e = .returned (.bool (nmbB x)) ∧ Below w.heap.size w w' := by
  have h : x.kind = 1 ∨ x.kind = 2 ∨ x.kind = 3 ∨ x.kind = 4 ∨ x.kind = 5 ∨ x.kind = 6 ∨ x.kind = 7 ∨ x.kind = 8 ∨ x.kind = 9 ∨ x.kind = 10 ∨ x.kind = 11 ∨ x.kind = 12 ∨ x.kind = 13 ∨ x.kind = 14 ∨ x.kind = 15 ∨ x.kind = 16 ∨ x.kind = 17 ∨ x.kind = 18 ∨ x.kind = 19 ∨ x.kind = 20 ∨ x.kind = 21 ∨ x.kind = 22 ∨ x.kind = 23 ∨ x.kind = 24 ∨ x.kind = 25 ∨ x.kind = 26 ∨ x.kind = 27 ∨ x.kind = 28 ∨ x.kind = 29 ∨ x.kind = 30 ∨ x.kind = 31 := by omega
  rcases h with h | h | h | h | h | h | h | h | h | h | h | h | h | h | h | h | h | h | h | h | h | h | h | h | h | h | h | h | h | h | h
  · exact nmb_1 x h w
  · exact nmb_2 x (by omega) w
  · exact nmb_3 x h w
  · exact nmb_4 x h w
  · exact nmb_5 x h w
  · exact nmb_2 x (by omega) w
  · exact nmb_2 x (by omega) w
  · exact nmb_2 x (by omega) w
  · exact nmb_2 x (by omega) w
  · exact nmb_10 x h w
  · exact nmb_0 x (by omega) w
  · exact nmb_2 x (by omega) w
  · exact nmb_2 x (by omega) w
  · exact nmb_2 x (by omega) w
  · exact nmb_0 x (by omega) w
  · exact nmb_0 x (by omega) w
  · exact nmb_0 x (by omega) w
  · exact nmb_18 x h w
  · exact nmb_19 x h w
  · exact nmb_20 x h w
  · exact nmb_21 x h w
  · exact nmb_2 x (by omega) w
  · exact nmb_2 x (by omega) w
  · exact nmb_2 x (by omega) w
  · exact nmb_2 x (by omega) w
  · exact nmb_2 x (by omega) w
  · exact nmb_2 x (by omega) w
  · exact nmb_2 x (by omega) w
  · exact nmb_2 x (by omega) w
  · exact nmb_0 x (by omega) w
  · exact nmb_0 x (by omega) w

end Ev
end Go.Proofs.Ytdaafledkloegaa

/-
  The program's Valid (P14.2).
-/
namespace Go.Proofs.Ytdaafledkloegaa
open Go.RowKit
set_option linter.unusedSimpArgs false
set_option linter.unusedVariables false
namespace Ev

set_option maxRecDepth 100000 in
set_option maxHeartbeats 8000000 in
theorem validD_any (x : Evt) (hI : EvIn x) (w : World) :
    Calls Try.prog 35 #[evV x] w fun e w' => e = .returned (.bool (validB x)) ∧ Below w.heap.size w w' := by
  have HF := Lib.hid (fun W => fields_any x.kind W)
  have HR := Lib.hid (fun (h : 0 ≤ fields x.kind) W => rest_any x h W)
  have HM := Lib.hid (fun (h : 0 ≤ fields x.kind) W => nmb_any x (kind_in h).1 (kind_in h).2 W)
  have HV := Lib.hid (fun (h : 0 ≤ fields x.kind) => valid_parts hI h)
  have HV1 := Lib.hid (fun h => valid_head (x := x) h)
  clear hI
  generalize restB x = rb at *
  generalize nmbB x = nb at *
  generalize validB x = vb at *
  obtain ⟨i, t, k, a, b, c, d, e, f⟩ := x
  simp only at *
  unfold evV
  have oE := Ob.Obj.new w 41 [.int .i64 i, .int .i64 t, .int .i64 k, .int .i64 a, .int .i64 b, .int .i64 c, .int .i64 d, .int .i64 e, .int .i64 f]
  have hA : Below w.heap.size w (w.alloc (.cells #[.int .i64 i, .int .i64 t, .int .i64 k, .int .i64 a, .int .i64 b, .int .i64 c, .int .i64 d, .int .i64 e, .int .i64 f] 41)) := (Below.refl _ _).alloc (Nat.le_refl _) _
  have c0 := oE.cell 0
  have c1 := oE.cell 1
  have c2 := oE.cell 2
  have c3 := oE.cell 3
  have c4 := oE.cell 4
  have c5 := oE.cell 5
  have c6 := oE.cell 6
  have c7 := oE.cell 7
  have c8 := oE.cell 8
  simp at c0 c1 c2 c3 c4 c5 c6 c7 c8
  have hz := oE.lt
  have HW1 := Lib.hid (fun W => within_any i 1 256 W)
  have HW2 := Lib.hid (fun W => within_any t 0 1099511627776 W)
  simp only at *
  unfold evV at HR HM
  simp only at HR HM
  generalize fields k = n at *
  cases h1 : win i 1 256 with
  | false =>
    rw [h1] at HW1 HV
    obtain rfl : vb = false := HV1.out (by unfold win at h1; simp at h1; omega)
    clear h1 HV HV1 HR HM
    go_enter Try.func35, Try.ntmps35
    go_wp2_with (go_at_call 44; (with_reducible refine (HW1.out _).mono ?_); rintro e w1 ⟨rfl, rfl⟩)
    go_ret
    exact ⟨rfl, hA⟩
  | true =>
    rw [h1] at HW1 HV
    clear h1
    cases h2 : win t 0 1099511627776 with
    | false =>
      rw [h2] at HW2 HV
      obtain rfl : vb = false := HV1.out (by unfold win at h2; simp at h2; omega)
      clear h2 HV HV1 HR HM
      have tk := trivial
      go_enter Try.func35, Try.ntmps35
      go_wp2_with (first
      | (go_at_call 44; have _t := tk; clear _t tk; (with_reducible refine (HW1.out _).mono ?_); rintro e w1 ⟨rfl, rfl⟩)
      | (go_at_call 44; (with_reducible refine (HW2.out _).mono ?_); rintro e w1 ⟨rfl, rfl⟩))
      go_ret
      exact ⟨rfl, hA⟩
    | true =>
      rw [h2] at HW2 HV
      clear h2
      by_cases hn : n < 0
      · obtain rfl : vb = false := HV1.out (.inl hn)
        have hn2 : decide (n ≥ 0) = false := by simp; omega
        clear HV HV1 HR HM
        have tk := trivial
        go_enter Try.func35, Try.ntmps35
        go_wp2_with (first
      | (go_at_call 44; have _t := tk; clear _t tk; (with_reducible refine (HW1.out _).mono ?_); rintro e w1 ⟨rfl, rfl⟩)
      | (go_at_call 44; (with_reducible refine (HW2.out _).mono ?_); rintro e w1 ⟨rfl, rfl⟩)
      | (go_at_call 45; (with_reducible refine (HF.out _).mono ?_); rintro e w1 ⟨rfl, rfl⟩)
      | (go_at_call 46; (with_reducible refine (HR.out _).mono ?_); rintro e w3 ⟨rfl, hb3⟩; have hB3 := hA.trans (hb3.mono hA.size); have oE3 := oE.below hb3; have d0 := oE3.cell 0; have d1 := oE3.cell 1; have d2 := oE3.cell 2; have d3 := oE3.cell 3; have d4 := oE3.cell 4; have d5 := oE3.cell 5; have d6 := oE3.cell 6; have d7 := oE3.cell 7; have d8 := oE3.cell 8; simp at d0 d1 d2 d3 d4 d5 d6 d7 d8)
      | (go_at_call 47; (with_reducible refine (HM.out _).mono ?_); rintro e w4 ⟨rfl, hb4⟩; have hB4 := hB3.trans (hb4.mono hB3.size)))
        go_ret
        exact ⟨rfl, hA⟩
      · have hn2 : n ≥ 0 := by omega
        have HR2 := Lib.hid (HR.out hn2)
        have HM2 := Lib.hid (HM.out hn2)
        have HV2 := Lib.hid (HV.out hn2)
        clear HV HV1 HR HM
        have HR := HR2
        have HM := HM2
        clear HR2 HM2
        cases rb with
        | false =>
          obtain rfl : vb = false := by rw [HV2.out]; rfl
          clear HV2
          have tk := trivial
          go_enter Try.func35, Try.ntmps35
          go_wp2_with (first
      | (go_at_call 44; have _t := tk; clear _t tk; (with_reducible refine (HW1.out _).mono ?_); rintro e w1 ⟨rfl, rfl⟩)
      | (go_at_call 44; (with_reducible refine (HW2.out _).mono ?_); rintro e w1 ⟨rfl, rfl⟩)
      | (go_at_call 45; (with_reducible refine (HF.out _).mono ?_); rintro e w1 ⟨rfl, rfl⟩)
      | (go_at_call 46; (with_reducible refine (HR.out _).mono ?_); rintro e w3 ⟨rfl, hb3⟩; have hB3 := hA.trans (hb3.mono hA.size); have oE3 := oE.below hb3; have d0 := oE3.cell 0; have d1 := oE3.cell 1; have d2 := oE3.cell 2; have d3 := oE3.cell 3; have d4 := oE3.cell 4; have d5 := oE3.cell 5; have d6 := oE3.cell 6; have d7 := oE3.cell 7; have d8 := oE3.cell 8; simp at d0 d1 d2 d3 d4 d5 d6 d7 d8)
      | (go_at_call 47; (with_reducible refine (HM.out _).mono ?_); rintro e w4 ⟨rfl, hb4⟩; have hB4 := hB3.trans (hb4.mono hB3.size)))
          go_ret
          exact ⟨rfl, hB3⟩
        | true =>
          obtain rfl : vb = nb := by rw [HV2.out]; simp
          clear HV2
          have tk := trivial
          go_enter Try.func35, Try.ntmps35
          go_wp2_with (first
      | (go_at_call 44; have _t := tk; clear _t tk; (with_reducible refine (HW1.out _).mono ?_); rintro e w1 ⟨rfl, rfl⟩)
      | (go_at_call 44; (with_reducible refine (HW2.out _).mono ?_); rintro e w1 ⟨rfl, rfl⟩)
      | (go_at_call 45; (with_reducible refine (HF.out _).mono ?_); rintro e w1 ⟨rfl, rfl⟩)
      | (go_at_call 46; (with_reducible refine (HR.out _).mono ?_); rintro e w3 ⟨rfl, hb3⟩; have hB3 := hA.trans (hb3.mono hA.size); have oE3 := oE.below hb3; have d0 := oE3.cell 0; have d1 := oE3.cell 1; have d2 := oE3.cell 2; have d3 := oE3.cell 3; have d4 := oE3.cell 4; have d5 := oE3.cell 5; have d6 := oE3.cell 6; have d7 := oE3.cell 7; have d8 := oE3.cell 8; simp at d0 d1 d2 d3 d4 d5 d6 d7 d8)
      | (go_at_call 47; (with_reducible refine (HM.out _).mono ?_); rintro e w4 ⟨rfl, hb4⟩; have hB4 := hB3.trans (hb4.mono hB3.size)))
          go_ret
          exact ⟨rfl, hB4⟩

end Ev
end Go.Proofs.Ytdaafledkloegaa
