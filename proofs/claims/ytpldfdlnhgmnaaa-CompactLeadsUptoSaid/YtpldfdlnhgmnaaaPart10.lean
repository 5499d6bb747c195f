import Derived.Test.YtpldfdlnhgmnaaaPart9
/-
  The walk of the law CompactLeads.
-/
namespace Go.Proofs.Ytpldfdlnhgmnaaa
open Go.RowKit
set_option linter.unusedSimpArgs false
set_option linter.unusedVariables false
namespace Cp
open Op (bytesLess)
open Mf (Tbl Lv lvV LvIn Tbs TAt TblIn uA box_lev tcs tbs_of_own LvO Slices madeP madeOk MadeOk madeR_any EdsIn mayT Post wp_post)
open Md10 (setCell_self)
theorem srcP_mem2 {t : List (List Tbl)} {k : Nat} {a : List UInt8} {x : Tbl} (h : x ∈ srcP t k a) : x ∈ t.getD k [] := by
  unfold srcP at h
  split at h
  · rename_i e; subst e; exact h
  · exact List.mem_of_mem_drop (List.mem_of_mem_take h)
theorem pick_due {c : Cfg} {t : List (List Tbl)} {A : Nat → List UInt8} (h : (pickP c t A).2 = true) : ∃ k, k < 3 ∧ pickP c t A = (jobP t k (A k), true) ∧ 0 < (t.getD k []).length := by
  have hd : dueP c t ≠ 3 := fun e => by unfold pickP at h; rw [if_pos e] at h; cases h
  have hp : pickP c t A = (jobP t (dueP c t) (A (dueP c t)), true) := by unfold pickP; rw [if_neg hd]
  have h3 : dueP c t < 3 ∧ isDue c t (dueP c t) = true := by
    unfold dueP at hd ⊢
    by_cases h0 : isDue c t 0 = true
    · rw [if_pos h0]; exact ⟨by omega, h0⟩
    · rw [if_neg h0] at hd ⊢
      by_cases h1 : isDue c t 1 = true
      · rw [if_pos h1]; exact ⟨by omega, h1⟩
      · rw [if_neg h1] at hd ⊢
        by_cases h2 : isDue c t 2 = true
        · rw [if_pos h2]; exact ⟨by omega, h2⟩
        · rw [if_neg h2] at hd; exact absurd rfl hd
  exact ⟨_, h3.1, hp, due_pos h3.1 h3.2⟩

set_option maxRecDepth 1000000 in
set_option maxHeartbeats 40000000 in
theorem compactLeads_walk (c : Cfg) (a : Option Addr) (cap : Nat) (es : List Mf.Ed) (b off : Nat) (A : Nat → List UInt8) (w : World) (hE : EdsIn w a es b off) :
    Calls Try.prog 7 #[cfgV c, .slice a es.length cap, .agg #[.string (Cd.bs (A 0)), .string (Cd.bs (A 1)), .string (Cd.bs (A 2)), .string (Cd.bs (A 3))]] w fun e w' => e = .returned (.bool true) ∧ Below w.heap.size w w' := by
  have HE := Lib.hid (fun W (h : Below w.heap.size w W) => madeR_any a cap es b off W (hE.grow h))
  have HMD := Lib.hid (madeOk _ es rfl)
  have hadds := hE.adds
  obtain ⟨l, hl⟩ : ∃ l, madeP es = l := ⟨_, rfl⟩
  rw [hl] at HE HMD
  have hlens : ∀ r ∈ l.t, r.length ≤ 1048576 := fun r hr => Nat.le_trans (HMD.out.len r hr) hadds
  have hsz := made_siz HMD.out
  have HIN : Hid (∀ x, (∃ j, x ∈ l.t.getD j []) → TblIn x) := made_in HMD.out
  have HPI := Lib.hid (fun a0 a1 a2 a3 n0 n1 n2 n3 c0 c1 c2 c3 (W : World) (h : LvIn W.heap.size W l (.slice a0 n0 c0) (.slice a1 n1 c1) (.slice a2 n2 c2) (.slice a3 n3 c3)) hf => pick_any c l a0 a1 a2 a3 n0 n1 n2 n3 c0 c1 c2 c3 A W h hsz hf HIN)
  have HPR := Lib.hid (fun a0 a1 a2 a3 n0 n1 n2 n3 c0 c1 c2 c3 (W : World) (h : LvIn W.heap.size W l (.slice a0 n0 c0) (.slice a1 n1 c1) (.slice a2 n2 c2) (.slice a3 n3 c3)) hf => pickR_any c l a0 a1 a2 a3 n0 n1 n2 n3 c0 c1 c2 c3 A W h hsz hf)
  have HPD := Lib.hid (fun h => pick_due (c := c) (t := l.t) (A := A) h)
  obtain ⟨⟨jb, due⟩, hpk⟩ : ∃ p, pickP c l.t A = p := ⟨_, rfl⟩
  rw [hpk] at HPI HPR HPD
  clear hE hadds hpk hl hsz
  obtain ⟨x0, x1, x2, x3, x4, x5, x6, x7⟩ := c
  unfold cfgV lvV at *
  simp only at *
  obtain ⟨wA, hA⟩ : ∃ wA, w.alloc (.cells #[.int .i64 x0, .int .i64 x1, .int .i64 x2, .int .i64 x3, .int .i64 x4, .int .i64 x5, .int .i64 x6, .int .u64 x7] 50) = wA := ⟨_, rfl⟩
  have bA : Below w.heap.size w wA := by rw [← hA]; exact (Below.refl _ _).alloc (Nat.le_refl _) _
  have xA : Ob.Obj wA w.heap.size 50 [.int .i64 x0, .int .i64 x1, .int .i64 x2, .int .i64 x3, .int .i64 x4, .int .i64 x5, .int .i64 x6, .int .u64 x7] := by rw [← hA]; exact Ob.Obj.new w _ [.int .i64 x0, .int .i64 x1, .int .i64 x2, .int .i64 x3, .int .i64 x4, .int .i64 x5, .int .i64 x6, .int .u64 x7]
  obtain ⟨ba, hba⟩ : ∃ j, wA.heap.size = j := ⟨_, rfl⟩
  obtain ⟨wC, hC⟩ : ∃ wC, wA.alloc (.cells #[.string (Cd.bs (A 0)), .string (Cd.bs (A 1)), .string (Cd.bs (A 2)), .string (Cd.bs (A 3))] 51) = wC := ⟨_, rfl⟩
  have bC : Below w.heap.size w wC := by rw [← hC]; exact bA.alloc bA.size _
  have zC : Ob.Obj wC ba 51 [.string (Cd.bs (A 0)), .string (Cd.bs (A 1)), .string (Cd.bs (A 2)), .string (Cd.bs (A 3))] := by rw [← hC, ← hba]; exact Ob.Obj.new wA _ [.string (Cd.bs (A 0)), .string (Cd.bs (A 1)), .string (Cd.bs (A 2)), .string (Cd.bs (A 3))]
  have xC : Ob.Obj wC w.heap.size 50 [.int .i64 x0, .int .i64 x1, .int .i64 x2, .int .i64 x3, .int .i64 x4, .int .i64 x5, .int .i64 x6, .int .u64 x7] := by rw [← hC]; exact xA.alloc _
  clear bA xA
  go_enter Try.func7, Try.ntmps7
  go_upto_region 2 with (go_at_call 19; (with_reducible refine (HE.out _ bC).mono ?_); rintro e w1 ⟨v1, rfl, hO1, hb1⟩; obtain ⟨a0, a1, a2, a3, n0, n1, n2, n3, c0, c1, c2, c3, hs1⟩ := hO1.slices; rw [hs1.1, hs1.2.1, hs1.2.2.1, hs1.2.2.2])
  clear hA hC hba
  obtain ⟨bl, hbl⟩ : ∃ j, w1.heap.size = j := ⟨_, rfl⟩
  obtain ⟨W2, hW2⟩ : ∃ wX, w1.alloc (.cells #[.int .u64 l.next, .int .u64 l.seq, .int .u64 l.log, .slice a0 n0 c0, .slice a1 n1 c1, .slice a2 n2 c2, .slice a3 n3 c3] 27) = wX := ⟨_, rfl⟩
  have hb1b : Below w1.heap.size w1 W2 := by rw [← hW2]; exact (Below.refl _ _).alloc (Nat.le_refl _) _
  have HBL := Lib.hid (show Ob.Obj W2 bl 27 [.int .u64 l.next, .int .u64 l.seq, .int .u64 l.log, .slice a0 n0 c0, .slice a1 n1 c1, .slice a2 n2 c2, .slice a3 n3 c3] by rw [← hW2, ← hbl]; exact Ob.Obj.new w1 _ _)
  have hbc2 : Below wC.heap.size wC W2 := hb1.trans (hb1b.mono hb1.size)
  have HB2 := Lib.hid (bC.trans (hbc2.mono bC.size))
  have HXC := Lib.hid (xC.below hbc2)
  have HZC := Lib.hid (zC.below hbc2)
  have HLO := Lib.hid ((hO1.below hb1b).lower (B' := w.heap.size) bC.size)
  have HLL := Lib.hid (show ∀ W, Below W2.heap.size W2 W → LvIn W.heap.size W l (.slice a0 n0 c0) (.slice a1 n1 c1) (.slice a2 n2 c2) (.slice a3 n3 c3) from fun W h => by have h0 := (HLO.out.below h).live hlens l.next l.seq l.log; rw [hs1.1, hs1.2.1, hs1.2.2.1, hs1.2.2.2] at h0; exact h0)
  have HF1 := Lib.hid (show FineV (.slice a0 n0 c0) ∧ FineV (.slice a1 n1 c1) ∧ FineV (.slice a2 n2 c2) ∧ FineV (.slice a3 n3 c3) from ⟨by rw [← hs1.1]; exact fine_of_row (HLO.out.row 0 (by omega)), by rw [← hs1.2.1]; exact fine_of_row (HLO.out.row 1 (by omega)), by rw [← hs1.2.2.1]; exact fine_of_row (HLO.out.row 2 (by omega)), by rw [← hs1.2.2.2]; exact fine_of_row (HLO.out.row 3 (by omega))⟩)
  rw [hW2, hbl]
  have xk := HXC.out
  have k0 := xk.cell 0; have k1 := xk.cell 1; have k2 := xk.cell 2; have k3 := xk.cell 3; have k4 := xk.cell 4; have k5 := xk.cell 5; have k6 := xk.cell 6; have k7 := xk.cell 7; simp at k0 k1 k2 k3 k4 k5 k6 k7
  have hxz := xk.lt
  have yk := HBL.out
  have l0 := yk.cell 0; have l1 := yk.cell 1; have l2 := yk.cell 2; have l3 := yk.cell 3; have l4 := yk.cell 4; have l5 := yk.cell 5; have l6 := yk.cell 6; simp at l0 l1 l2 l3 l4 l5 l6
  have hyz := yk.lt
  have za := HZC.out
  have z0 := za.cell 0; have z1 := za.cell 1; have z2 := za.cell 2; have z3 := za.cell 3; simp at z0 z1 z2 z3
  have hzz := za.lt
  have HPK1 := Lib.hid (HPI.out a0 a1 a2 a3 n0 n1 n2 n3 c0 c1 c2 c3 W2 (HLL.out W2 (Below.refl _ _)) HF1)
  obtain ⟨lev, XL, YL, bot⟩ := jb
  unfold jobV at HPK1 HPR
  simp only at HPK1 HPR
  clear hW2 hbl hb1b hbc2 xC zC hO1 hs1 hb1 bC HE xk yk za HPI
  go_upto_region 3 with (go_at_call 22; (with_reducible refine HPK1.out.mono ?_); rintro e w10 ⟨vx, vy, rfl, hx, hy, hb10⟩; obtain ⟨ax, cx, rfl, _⟩ := Sq.row_cases hx; obtain ⟨ay, cy, rfl, _⟩ := Sq.row_cases hy)
  clear k0 k1 k2 k3 k4 k5 k6 k7 l0 l1 l2 l3 l4 l5 l6 z0 z1 z2 z3 hxz hyz hzz HPK1
  obtain ⟨bj, hbj⟩ : ∃ j, w10.heap.size = j := ⟨_, rfl⟩
  obtain ⟨w11, hw11⟩ : ∃ wX, w10.alloc (.cells #[.int .i64 lev, .slice ax XL.length cx, .slice ay YL.length cy, .bool bot] 56) = wX := ⟨_, rfl⟩
  have hb11 : Below w10.heap.size w10 w11 := by rw [← hw11]; exact (Below.refl _ _).alloc (Nat.le_refl _) _
  have HBJ := Lib.hid (show Ob.Obj w11 bj 56 [.int .i64 lev, .slice ax XL.length cx, .slice ay YL.length cy, .bool bot] by rw [← hw11, ← hbj]; exact Ob.Obj.new w10 _ _)
  have HX11 := Lib.hid (own_below hx hb11)
  have HY11 := Lib.hid (own_below hy hb11)
  have h211 : Below W2.heap.size W2 w11 := hb10.trans (hb11.mono hb10.size)
  have H211 := Lib.hid h211
  rw [hw11, hbj]
  clear hw11 hbj hb11 hx hy hb10
  cases due with
  | false =>
    have xk := HXC.out.below h211
    have k0 := xk.cell 0; have k1 := xk.cell 1; have k2 := xk.cell 2; have k3 := xk.cell 3; have k4 := xk.cell 4; have k5 := xk.cell 5; have k6 := xk.cell 6; have k7 := xk.cell 7; simp at k0 k1 k2 k3 k4 k5 k6 k7
    have hxz := xk.lt
    have yk := HBL.out.below h211
    have l0 := yk.cell 0; have l1 := yk.cell 1; have l2 := yk.cell 2; have l3 := yk.cell 3; have l4 := yk.cell 4; have l5 := yk.cell 5; have l6 := yk.cell 6; simp at l0 l1 l2 l3 l4 l5 l6
    have hyz := yk.lt
    have za := HZC.out.below h211
    have z0 := za.cell 0; have z1 := za.cell 1; have z2 := za.cell 2; have z3 := za.cell 3; simp at z0 z1 z2 z3
    have hzz := za.lt
    have HPK2 := Lib.hid (HPR.out a0 a1 a2 a3 n0 n1 n2 n3 c0 c1 c2 c3 w11 (HLL.out w11 h211) ⟨(HF1.out.1 _ _ _ rfl).1, (HF1.out.2.1 _ _ _ rfl).1, (HF1.out.2.2.1 _ _ _ rfl).1, (HF1.out.2.2.2 _ _ _ rfl).1⟩)
    clear xk yk za HPR h211
    go_wp2_with (go_at_call 23; (with_reducible refine HPK2.out.mono ?_); rintro e w12 ⟨ux, uy, rfl, hx, hy, hb12⟩; obtain ⟨px, qx, rfl, _⟩ := Sq.row_cases hx; obtain ⟨py, qy, rfl, _⟩ := Sq.row_cases hy)
    go_ret
    exact ⟨rfl, (HB2.out.trans (H211.out.mono HB2.out.size)).trans ((hb12.alloc hb12.size _).mono (Nat.le_trans HB2.out.size H211.out.size))⟩
  | true =>
    obtain ⟨k, hk3, hpk, hpos⟩ := HPD.out rfl
    have hjb : (⟨lev, XL, YL, bot⟩ : Jb) = jobP l.t k (A k) := congrArg Prod.fst hpk
    unfold jobP at hjb
    injection hjb with e1 e2 e3 e4
    have hX0 : 0 < XL.length := by rw [e2]; exact srcP_pos _ hpos
    have hXn : XL.length ≤ 1048576 := by rw [e2]; exact srcP_len (by decide) hlens k _
    have hYn : YL.length ≤ 1048576 := by rw [e3]; exact dstP_len hlens k _
    have hXlev : ∀ x ∈ XL, x.lev = (k : Int) := fun x hx => (HMD.out.t4.lev k (by omega)).lev x (srcP_mem2 (by rw [← e2]; exact hx))
    have hov : YL = overP (spanP XL).1 (spanP XL).2 (l.t.getD (k + 1) []) := by rw [e3]; unfold dstP; rw [← e2]
    have hYlev : ∀ x ∈ YL, x.lev = (k : Int) + 1 := fun x hx => by
      have := (HMD.out.t4.lev (k + 1) (by omega)).lev x (by rw [hov] at hx; exact (List.mem_filter.1 hx).1)
      rw [this]; push_cast; rfl
    have hbot : bot = (overP (spanP (XL ++ YL)).1 (spanP (XL ++ YL)).2 (l.t.drop (k + 2)).flatten).isEmpty := by rw [e4]; unfold botP; rw [← e2, ← e3]
    have HXL := Lib.hid hXlev
    have HYL := Lib.hid hYlev
    have HOV := Lib.hid hov
    have HBT := Lib.hid hbot
    have HSB := Lib.hid (span_both hX0 YL)
    have HS1 := Lib.hid (span_once hX0)
    have hN1 := Mf.getD_le hlens (k + 1)
    clear e2 e3 e4 hXlev hYlev hov hbot hpk hpos HPD HPR
    subst e1
    have hkA : ¬ (k : Int) < 0 := by omega
    have hkB : ¬ (2 : Int) < (k : Int) := by omega
    have hXz : ((XL.length : Int) == 0) = false := by
      rw [beq_eq_false_iff_ne]
      intro e
      have h := Int.natCast_pos.2 hX0
      rw [e] at h
      exact absurd h (Int.lt_irrefl 0)
    have hz0 : (0 : Int) ≤ 0 ∧ (0 : Int) < (XL.length : Int) := ⟨Int.le_refl _, Int.natCast_pos.2 hX0⟩
    obtain ⟨ax', cx', gb, fo, he, hax, hxc⟩ := tbs_of_own HX11.out
    injection he with e5 _ e6
    subst e5 e6
    obtain ⟨rfl, hgb⟩ := hax hX0
    obtain ⟨g0, g1, g2, g3, g4, g5⟩ := hxc 0 hX0
    simp only [Nat.zero_mul, Nat.add_zero] at g4 g5
    obtain ⟨x0', hx0⟩ : ∃ x, XL[0] = x := ⟨_, rfl⟩
    rw [hx0] at g4 g5 HS1
    obtain ⟨xn, xl, xs, xc, xlo, xhi⟩ := x0'
    simp only at g4 g5 HS1
    have HAL := Lib.hid (allR_any _ _ XL YL w11 (tbs_of_own HX11.out) (tbs_of_own HY11.out) (by omega) (by omega))
    have hj := HBJ.out
    have j0 := hj.cell 0; have j1 := hj.cell 1; have j2 := hj.cell 2; have j3 := hj.cell 3; simp at j0 j1 j2 j3
    have hjz := hj.lt
    clear g0 g1 g2 g3 hx0 hxc hax h211 hj
    go_upto_region 11 with (go_at_call 25; (with_reducible refine HAL.out.mono ?_); rintro e w12 ⟨rz, rfl, hZ, hb12⟩; obtain ⟨az, cz, rfl, _⟩ := Sq.row_cases hZ)
    have HZ12 := Lib.hid (show Tbs w12.heap.size w12 (.slice az (XL.length + YL.length) cz) (XL ++ YL) by rw [← List.length_append]; exact tbs_of_own hZ)
    have HB12 := Lib.hid hb12
    clear g4 g5 j0 j1 j2 j3 HAL hZ
    go_wp2_with fail
    refine wp_post (ld_levels _ _ XL YL xlo xhi bj k _ ay _ cx _ cy bot az _ cz w12 hk3 rfl (by rw [List.length_append]) (by rw [List.length_append]; omega) HXL.out HYL.out HZ12 (Lib.hid (HBJ.out.below hb12)) ?_)
    intro x6 x15 x75 x76 x77 x78 x79 x80 x81 x82 x83 x84 x85 x86 x87 x88 x89 x90 x91 x92 x93 x94 x95 x96 x97 x98 x99 x100 x101 x102 x103 x104 x105 x106 x107 x108 x109 x110 x111 x112 x113 x114 x115 x116 x117 x118 x119 x120 x121 x122 x123 x124 x125 x126 x127 x128 x129 x130 x131 x132 x133 x134 W3 hb3
    rw [HS1.out]
    have hb13 := hb12.trans (hb3.mono hb12.size)
    obtain ⟨⟨lo1, hi1⟩, hsp1⟩ : ∃ sp, spanP XL = sp := ⟨_, rfl⟩
    rw [hsp1] at HOV HSB ⊢
    simp only at HOV
    have hk5 : k + 1 < 4 := by omega
    have h23 := H211.out.trans (hb13.mono H211.out.size)
    have HLI := Lib.hid (fun W (h : Below W3.heap.size W3 W) => HLL.out W (h23.trans (h.mono h23.size)))
    have hj := HBJ.out.below hb13
    have j0 := hj.cell 0
    simp at j0
    have hjz3 := hj.lt
    have HJ3 := Lib.hid hj
    have bl3 := HBL.out.below h23
    have ck := box_lev bl3 hk5
    have HTN := Lib.hid (fun W (h : Below W3.heap.size W3 W) => (HLI.out W h).lev hk5)
    obtain ⟨N, hN⟩ : ∃ N, l.t.getD (k + 1) [] = N := ⟨_, rfl⟩
    rw [hN] at hN1 HTN HOV
    obtain ⟨an, cn, hun⟩ : ∃ a c, uA (.slice a0 n0 c0) (.slice a1 n1 c1) (.slice a2 n2 c2) (.slice a3 n3 c3) (k + 1) = .slice a N.length c := by obtain ⟨a, c, _, _, h, _⟩ := HTN.out _ (Below.refl _ _); exact ⟨a, c, h⟩
    rw [hun] at ck HTN
    have hblz3 := bl3.lt
    have hw1 : IntKind.i64.wrap ((k : Int) + 1) = (k : Int) + 1 := by rw [IntKind.wrap_i64]; omega
    have hw2 : IntKind.i64.wrap ((k : Int) + 2) = (k : Int) + 2 := by rw [IntKind.wrap_i64]; omega
    have HBL3 := Lib.hid bl3
    clear hsp1 hN hun bl3 hj HS1
    simp only [Exit.inBlock, Exit.then, if_true]
    go_wp2_with fail
    refine wp_post (ld_next _ _ N YL lo1 hi1 bj (k : Int) _ ay _ cx _ cy bot an _ cn W3 rfl rfl (by omega) (by omega) HOV.out HTN (Lib.hid (fun W h => tbs_of_own (own_below HY11.out (hb13.trans (h.mono hb13.size))))) HJ3 ?_)
    intro x6 x17 x18 x19 x20 x141 x142 x143 x144 x145 x146 x147 x148 x149 x150 x151 x152 x153 x154 x155 x156 x157 x158 x159 x160 x161 x162 x163 x164 x165 x166 x167 x168 x169 x170 x171 x172 x173 x174 x175 x176 W4 hb4
    have hb14 := hb13.trans (hb4.mono hb13.size)
    clear ck j0
    simp only [Exit.inBlock, Exit.then, if_true]
    go_wp2_with fail
    refine wp_post (ld_span _ _ (XL ++ YL) lo1 hi1 az _ cz W4 (by rw [List.length_append]) (by rw [List.length_append]; omega) (Lib.hid (HZ12.out.grow (hb3.trans (hb4.mono hb3.size)) (Nat.le_trans hb3.size hb4.size))) ?_)
    intro x21 x177 x178 x179 x180 x181 x182 x183 x184 x185 x186 x187 x188 x189 x190 x191 x192 x193 x194 x195 x196 x197 x198 x199
    rw [HSB.out]
    obtain ⟨⟨lo2, hi2⟩, hsp2⟩ : ∃ sp, spanP (XL ++ YL) = sp := ⟨_, rfl⟩
    rw [hsp2] at HBT ⊢
    simp only at HBT
    have hj := HBJ.out.below hb14
    have j0 := hj.cell 0
    simp at j0
    have hjz4 := hj.lt
    clear hsp2 hj
    simp only [Exit.inBlock, Exit.then, if_true]
    go_wp2_with fail
    refine wp_post (ld_deep _ _ l k _ bl a0 a1 a2 a3 n0 n1 n2 n3 c0 c1 c2 c3 lo2 hi2 W4 hk3 (by first | rfl | omega) (Lib.hid (fun W h => HLI.out W (hb4.trans (h.mono hb4.size)))) (Lib.hid (HBL3.out.below hb4)) ?_)
    intro x23 x24 x25 x200 x201 x202 x203 x204 x205 x206 x207 x208 x209 x210 x211 x212 x213 x214 x215 x216 x217 x218 x219 x220 x221 x222 x223 x224 x225 x226 W5 hb5
    have hb15 := hb14.trans (hb5.mono hb14.size)
    have hj := HBJ.out.below hb15
    have j3 := hj.cell 3
    simp at j3
    have hjz5 := hj.lt
    rw [← HBT.out]
    clear j0 hj
    simp only [Exit.inBlock, Exit.then, if_true]
    have hnn : (bot == !!bot) = true := by cases bot <;> rfl
    cases bot
    all_goals
      go_wp2_with fail
      go_ret
      exact ⟨rfl, HB2.out.trans ((H211.out.trans (hb15.mono H211.out.size)).mono HB2.out.size)⟩
end Cp
end Go.Proofs.Ytpldfdlnhgmnaaa

/-
  The law CompactLeads, as its frame calls it.
-/
namespace Go.Proofs.Ytpldfdlnhgmnaaa
open Go.RowKit
set_option linter.unusedVariables false
set_option linter.unusedSimpArgs false
namespace Cp
theorem compactLeads_law (c : Cfg) (a : Option Addr) (n cap : Nat) (es : List Mf.Ed) (b off : Nat) (A : Nat → List UInt8) (w : World) (_ : CfgIn c) (hE : n = es.length ∧ Mf.EdsIn w a es b off) (_ : True) :
    Calls Try.prog 7 #[cfgV c, .slice a n cap, .agg #[.string (Cd.bs (A 0)), .string (Cd.bs (A 1)), .string (Cd.bs (A 2)), .string (Cd.bs (A 3))]] w fun e w' => e = .returned (.bool true) ∧ Below w.heap.size w w' := by
  obtain ⟨rfl, hE⟩ := hE
  exact compactLeads_walk c a cap es b off A w hE
end Cp
end Go.Proofs.Ytpldfdlnhgmnaaa
