import Derived.Test.YteckjhhbljoklaaPart5
/-
  The document's answers of chapter 10: Decode, walked.
-/
namespace Go.Proofs.Yteckjhhbljoklaa
open Go.RowKit
set_option linter.unusedSimpArgs false
set_option linter.unusedVariables false
namespace Mf
open Fi (TkS tkNum tkText Dat)
/-- amid Decode: the reader, the result's box, all that was ahead -/
structure DSt (w : World) (bb : Nat) (n q g : Int) (A : List Tbl) (D : List Int) (av dv : Value) (s : TkS) (W : World) : Prop where
  es : ES w.heap.size bb n q g A D av dv W
  tk : Rr.Tk W (w.heap.size + 1) s
  res : Ob.Obj W w.heap.size 26 [.int .u64 0, .int .u64 0, .int .u64 0, .slice none 0 0, .slice none 0 0]
  be : Below w.heap.size w W
  lt : w.heap.size + 1 < bb
variable {w : World} {bb : Nat} {n q g : Int} {A : List Tbl} {D : List Int} {av dv : Value} {s s' : TkS} {W W2 : World}
theorem DSt.call (h : DSt w bb n q g A D av dv s W) (hk : Sq.Kept (fun k => k ≠ w.heap.size + 1) W W2) (ht : Rr.Tk W2 (w.heap.size + 1) s') : DSt w bb n q g A D av dv s' W2 :=
  ⟨h.es.call h.tk hk (by have := h.lt; omega) (by decide) (by decide), ht, h.res.kept hk (by omega), h.be.trans (hk.below (B := w.heap.size) (fun k hk => by omega) h.be.size), h.lt⟩
theorem DSt.below (h : DSt w bb n q g A D av dv s W) (hb : Below W.heap.size W W2) : DSt w bb n q g A D av dv s W2 :=
  ⟨h.es.below hb, h.tk.below hb, h.res.below hb, h.be.trans (hb.mono h.be.size), h.lt⟩
theorem DSt.addT (h : DSt w bb n q g A D av dv s W) (x : Tbl) {v2 : Value} (hown : W2.ownsRow w.heap.size 44 6 v2 (A.length + 1) (tcs A ++ tC x)) (hg : W.grownBy W2 av.ownBlock) : DSt w bb n q g (A ++ [x]) D v2 dv s (W2.setCell ⟨bb, 3, none⟩ v2) :=
  have hlt := h.lt
  ⟨h.es.addT x hown hg, Ob.Obj.other (Ob.Obj.grown h.tk hg (Ob.Obj.not_row h.tk (by decide) h.es.rowA)) (p := ⟨bb, 3, none⟩) (by show w.heap.size + 1 ≠ bb; omega) _, Ob.Obj.other (h.res.grown hg (h.res.not_row (by decide) h.es.rowA)) (p := ⟨bb, 3, none⟩) (by show w.heap.size ≠ bb; omega) _, (h.be.grown hg h.be.size (fun k hk => (Ob.row_lt h.es.rowA hk).1)).setCell (p := ⟨bb, 3, none⟩) (by show w.heap.size ≤ bb; omega) _, hlt⟩
theorem DSt.addD (h : DSt w bb n q g A D av dv s W) (x : Int) {v2 : Value} (hown : W2.ownsRow w.heap.size 22 1 v2 (D.length + 1) (nC D ++ [.int .u64 x])) (hg : W.grownBy W2 dv.ownBlock) : DSt w bb n q g A (D ++ [x]) av v2 s (W2.setCell ⟨bb, 4, none⟩ v2) :=
  have hlt := h.lt
  ⟨h.es.addD x hown hg, Ob.Obj.other (Ob.Obj.grown h.tk hg (Ob.Obj.not_row h.tk (by decide) h.es.rowD)) (p := ⟨bb, 4, none⟩) (by show w.heap.size + 1 ≠ bb; omega) _, Ob.Obj.other (h.res.grown hg (h.res.not_row (by decide) h.es.rowD)) (p := ⟨bb, 4, none⟩) (by show w.heap.size ≠ bb; omega) _, (h.be.grown hg h.be.size (fun k hk => (Ob.row_lt h.es.rowD hk).1)).setCell (p := ⟨bb, 4, none⟩) (by show w.heap.size ≤ bb; omega) _, hlt⟩
structure DCs (w : World) (bb : Nat) (n q g : Int) (av dv : Value) (s : TkS) (W : World) : Prop where
  t0 : W.cell? ⟨w.heap.size + 1, 0, none⟩ = some (.string (Cd.bs s.1))
  t1 : W.cell? ⟨w.heap.size + 1, 1, none⟩ = some (.bool s.2)
  b0 : W.cell? ⟨bb, 0, none⟩ = some (.int .u64 n)
  b1 : W.cell? ⟨bb, 1, none⟩ = some (.int .u64 q)
  b2 : W.cell? ⟨bb, 2, none⟩ = some (.int .u64 g)
  b3 : W.cell? ⟨bb, 3, none⟩ = some av
  b4 : W.cell? ⟨bb, 4, none⟩ = some dv
  f3 : W.frozen? ⟨bb, 3, none⟩ = false
  f4 : W.frozen? ⟨bb, 4, none⟩ = false
  z1 : w.heap.size + 1 < W.heap.size
  z2 : bb < W.heap.size
theorem DSt.cells (h : DSt w bb n q g A D av dv s W) : DCs w bb n q g av dv s W :=
  ⟨Ob.Obj.cell h.tk 0, Ob.Obj.cell h.tk 1, h.es.box.cell 0, h.es.box.cell 1, h.es.box.cell 2, h.es.box.cell 3, h.es.box.cell 4, h.es.box.frozen 3, h.es.box.frozen 4, Ob.Obj.lt h.tk, h.es.box.lt⟩
structure RCs (w W : World) : Prop where
  r0 : W.cell? ⟨w.heap.size, 0, none⟩ = some (.int .u64 0)
  r1 : W.cell? ⟨w.heap.size, 1, none⟩ = some (.int .u64 0)
  r2 : W.cell? ⟨w.heap.size, 2, none⟩ = some (.int .u64 0)
  r3 : W.cell? ⟨w.heap.size, 3, none⟩ = some (.slice none 0 0)
  r4 : W.cell? ⟨w.heap.size, 4, none⟩ = some (.slice none 0 0)
  g0 : W.frozen? ⟨w.heap.size, 0, none⟩ = false
  g1 : W.frozen? ⟨w.heap.size, 1, none⟩ = false
  g2 : W.frozen? ⟨w.heap.size, 2, none⟩ = false
  g3 : W.frozen? ⟨w.heap.size, 3, none⟩ = false
  g4 : W.frozen? ⟨w.heap.size, 4, none⟩ = false
theorem DSt.rcells (h : DSt w bb n q g A D av dv s W) : RCs w W :=
  ⟨h.res.cell 0, h.res.cell 1, h.res.cell 2, h.res.cell 3, h.res.cell 4, h.res.frozen 0, h.res.frozen 1, h.res.frozen 2, h.res.frozen 3, h.res.frozen 4⟩

set_option maxRecDepth 100000 in
set_option maxHeartbeats 8000000 in
theorem decodeR10_any (l : List UInt8) (w : World) (hl : l.length ≤ 140737488351232) :
    Calls Try.prog 13 #[.string (Cd.bs l)] w (DecOut10 (decR10 l) w) := by
  obtain ⟨i0, hi, hz0, hz1, hz2⟩ := info_parts info_Table10
  obtain ⟨j0, ji, jz0, jz1, jz2⟩ := info_parts info_u6410
  have m1 := Fi.tkNum_le 4611686018427387904 (l, false)
  have m2 := Fi.tkNum_le 4611686018427387904 (rN1 l)
  have m3 := Fi.tkNum_le 4611686018427387904 (rN2 l)
  have l1 := Fi.tkNum_len 4611686018427387904 (l, false)
  have l2 := Fi.tkNum_len 4611686018427387904 (rN1 l)
  have l3 := Fi.tkNum_len 4611686018427387904 (rN2 l)
  have l4 := Fi.tkNum_len 1000 (rN3 l)
  have m4 := Fi.tkNum_le 1000 (rN3 l)
  change (rN1 l).1.length ≤ l.length at l1
  change (rN2 l).1.length ≤ _ at l2
  change (rN3 l).1.length ≤ _ at l3
  change (rM l).2.1.length ≤ _ at l4
  change (rM l).1 ≤ 1000 at m4
  have hN : ∃ n q g : Nat, (tkNum 4611686018427387904 (l, false)).1 = n ∧ (tkNum 4611686018427387904 (rN1 l)).1 = q ∧ (tkNum 4611686018427387904 (rN2 l)).1 = g := ⟨_, _, _, rfl, rfl, rfl⟩
  have hEd : rE l = ⟨((tkNum 4611686018427387904 (l, false)).1 : Int), ((tkNum 4611686018427387904 (rN1 l)).1 : Int), ((tkNum 4611686018427387904 (rN2 l)).1 : Int), (rA l).1, (rD l).1⟩ := rfl
  have HU1 := Lib.hid (fun W (h : Rr.Tk W (w.heap.size + 1) (l, false)) => show Calls Try.prog 30 #[.pointer (some ⟨w.heap.size + 1, 0, none⟩), .int .u64 4611686018427387904] W fun e w' => e = .returned (.int .u64 ((tkNum 4611686018427387904 (l, false)).1 : Int)) ∧ Rr.Tk w' (w.heap.size + 1) (rN1 l) ∧ Sq.Kept (fun k => k ≠ w.heap.size + 1) W w' from Rr.uint_any _ (l, false) 4611686018427387904 4611686018427387904 rfl W h hl (by decide))
  have HU2 := Lib.hid (fun W (h : Rr.Tk W (w.heap.size + 1) (rN1 l)) => show Calls Try.prog 30 #[.pointer (some ⟨w.heap.size + 1, 0, none⟩), .int .u64 4611686018427387904] W fun e w' => e = .returned (.int .u64 ((tkNum 4611686018427387904 (rN1 l)).1 : Int)) ∧ Rr.Tk w' (w.heap.size + 1) (rN2 l) ∧ Sq.Kept (fun k => k ≠ w.heap.size + 1) W w' from Rr.uint_any _ (rN1 l) 4611686018427387904 4611686018427387904 rfl W h (by omega) (by decide))
  have HU3 := Lib.hid (fun W (h : Rr.Tk W (w.heap.size + 1) (rN2 l)) => show Calls Try.prog 30 #[.pointer (some ⟨w.heap.size + 1, 0, none⟩), .int .u64 4611686018427387904] W fun e w' => e = .returned (.int .u64 ((tkNum 4611686018427387904 (rN2 l)).1 : Int)) ∧ Rr.Tk w' (w.heap.size + 1) (rN3 l) ∧ Sq.Kept (fun k => k ≠ w.heap.size + 1) W w' from Rr.uint_any _ (rN2 l) 4611686018427387904 4611686018427387904 rfl W h (by omega) (by decide))
  have HU4 := Lib.hid (fun W (h : Rr.Tk W (w.heap.size + 1) (rN3 l)) => show Calls Try.prog 30 #[.pointer (some ⟨w.heap.size + 1, 0, none⟩), .int .u64 1000] W fun e w' => e = .returned (.int .u64 ((rM l).1 : Int)) ∧ Rr.Tk w' (w.heap.size + 1) (rM l).2 ∧ Sq.Kept (fun k => k ≠ w.heap.size + 1) W w' from Rr.uint_any _ (rN3 l) 1000 1000 rfl W h (by omega) (by decide))
  obtain ⟨n, q, g, hn, hq, hg⟩ := hN
  rw [hn] at HU1 m1 hEd
  rw [hq] at HU2 m2 hEd
  rw [hg] at HU3 m3 hEd
  clear hn hq hg
  have hA0 : rA l = goS rTab (rM l).1 [] (rM l).2 := rfl
  have hD0 : rD l = goS rDrop (rM2 l).1 [] (rM2 l).2 := rfl
  have hM2 : rM2 l = tkNum 1000 (rA l).2 := rfl
  have HDEC := Lib.hid (show decR10 l = if (rD l).2.2 = false ∧ (rD l).2.1 = [] ∧ mayE (rE l) = true ∧ l.length ≤ 262144 then some (rE l) else none from rfl)
  have oR := Ob.Obj.new w 26 [.int .u64 0, .int .u64 0, .int .u64 0, .slice none 0 0, .slice none 0 0]
  have hW : Below w.heap.size w ((w.alloc (.cells #[.int .u64 0, .int .u64 0, .int .u64 0, .slice none 0 0, .slice none 0 0] 26)).alloc (.cells #[.string (Cd.bs l), .bool false] 63)) := ((Below.refl _ _).alloc (Nat.le_refl _) _).alloc (by simp) _
  have HT0 := Lib.hid (show Rr.Tk ((w.alloc (.cells #[.int .u64 0, .int .u64 0, .int .u64 0, .slice none 0 0, .slice none 0 0] 26)).alloc (.cells #[.string (Cd.bs l), .bool false] 63)) (w.heap.size + 1) (l, false) by simpa [Rr.Tk] using Ob.Obj.new (w.alloc (.cells #[.int .u64 0, .int .u64 0, .int .u64 0, .slice none 0 0, .slice none 0 0] 26)) 63 [.string (Cd.bs l), .bool false])
  have HR0 := Lib.hid (oR.alloc (.cells #[.string (Cd.bs l), .bool false] 63))
  have HW := Lib.hid hW
  clear oR hW
  generalize hK : (rM l).1 = K at *
  generalize hS : (rM l).2 = sM at *
  go_enter Try.func13, Try.ntmps13
  go_wp2_with (first
    | (go_at_call 30; (with_reducible refine (HU1.out _ HT0.out).mono ?_); rintro e w1 ⟨rfl, hT1, hk1⟩; have HT1 := Lib.hid hT1; have HK1 := Lib.hid hk1)
    | (go_at_call 30; (with_reducible refine (HU2.out _ HT1.out).mono ?_); rintro e w2 ⟨rfl, hT2, hk2⟩; have HT2 := Lib.hid hT2; have HK2 := Lib.hid (HK1.out.trans hk2))
    | (go_at_call 30; (with_reducible refine (HU3.out _ HT2.out).mono ?_); rintro e w3 ⟨rfl, hT3, hk3⟩; have hK3 := HK2.out.trans hk3; have hz3 := hK3.size; simp at hz3; have hS3 : DSt w w3.heap.size n q g [] [] (.slice none 0 0) (.slice none 0 0) (rN3 l) (w3.alloc (.cells #[.int .u64 n, .int .u64 q, .int .u64 g, .slice none 0 0, .slice none 0 0] 26)) := ⟨⟨Ob.Obj.new w3 _ [.int .u64 n, .int .u64 q, .int .u64 g, .slice none 0 0, .slice none 0 0], World.ownsRow_nil _ _ _ _, World.ownsRow_nil _ _ _ _⟩, hT3.below ((Below.refl _ _).alloc (Nat.le_refl _) _), (HR0.out.kept hK3 (by omega)).alloc _, (HW.out.trans (hK3.below (B := w.heap.size) (fun k hk => by omega) HW.out.size)).alloc (by omega) _, by omega⟩; have HS3 := Lib.hid hS3)
    | (go_at_call 30; (with_reducible refine (HU4.out _ HS3.out.tk).mono ?_); rintro e w4 ⟨rfl, hT4, hk4⟩; have HS4 := Lib.hid (HS3.out.call hk4 hT4)))
  obtain ⟨bb, hbb⟩ : ∃ bb, bb = w3.heap.size := ⟨_, rfl⟩
  have hS4 := HS4.out
  rw [← hbb] at hS4
  rw [← hbb]
  clear hbb HS4 HS3 HT0 HR0 HW HT1 HT2 HK1 HK2 hk3 hT3 hK3 hS3 hT4 hk4 HU1 HU2 HU3 HU4 hz3
  go_loopw [7] (fun i wr => ∃ (k : Nat) (A : List Tbl) (s' : TkS) (v : Value), k ≤ K ∧ i = .int .u64 (k : Int) ∧ DSt w bb n q g A [] v (.slice none 0 0) s' wr ∧ A.length ≤ k ∧ s'.1.length ≤ l.length ∧ (∀ x ∈ A, TblIn x) ∧ Hid (goS rTab K [] sM = goS rTab (K - k) A s')) (fun i _ => K - (intOf i).toNat)
  case atStart => exact ⟨0, [], sM, _, Nat.zero_le _, rfl, hS4, Nat.le_refl _, by omega, fun p hp => (by cases hp), rfl⟩
  case round =>
    obtain ⟨k, A, s', v, hk, rfl, hS, hAk, hsl, hpi, hgo⟩ := hrel
    obtain ⟨wo, rfl⟩ : ∃ wo : World, wo = wr := ⟨_, rfl⟩
    obtain ⟨t0, t1, b0, b1, b2, b3, b4, f3, f4, z1, z2⟩ := hS.cells
    obtain ⟨ao, cap, rfl, hg0⟩ := Sq.row_cases hS.es.rowA
    by_cases hgoes : k < K ∧ s'.2 = false
    · obtain ⟨hlt, hsb⟩ := hgoes
      obtain ⟨X, hX⟩ : ∃ X, rTab s' = X := ⟨_, rfl⟩
      have hstep : goS rTab K [] sM = goS rTab (K - (k + 1)) (A ++ [X.1]) X.2 := by
        rw [hgo.out, show K - k = (K - (k + 1)) + 1 by omega, goS, if_neg (by rw [hsb]; simp), hX]
      obtain ⟨hq1, hq2⟩ := rTab_in s'
      rw [hX] at hq1 hq2
      rw [hsb] at t1
      have hi1 : (k : Int) < (K : Int) := by omega
      have HX1 := Lib.hid (fun W (h : Rr.Tk W (w.heap.size + 1) s') => Rr.uint_any (w.heap.size + 1) s' 4611686018427387904 4611686018427387904 rfl W h (by omega) (by decide))
      have e1 := Fi.tkNum_len 4611686018427387904 s'
      unfold rTab tabBy at hX
      generalize tkNum 4611686018427387904 s' = y1 at *
      obtain ⟨a, sa⟩ := y1
      simp only at hX e1
      have HX2 := Lib.hid (fun W (h : Rr.Tk W (w.heap.size + 1) sa) => Rr.uint_any (w.heap.size + 1) sa 3 3 rfl W h (by omega) (by decide))
      have e2 := Fi.tkNum_len 3 sa
      have e2b := Fi.tkNum_le 3 sa
      generalize tkNum 3 sa = y2 at *
      obtain ⟨b, sb⟩ := y2
      simp only at hX e2 e2b
      have HX3 := Lib.hid (fun W (h : Rr.Tk W (w.heap.size + 1) sb) => Rr.uint_any (w.heap.size + 1) sb 1073741824 1073741824 rfl W h (by omega) (by decide))
      have e3 := Fi.tkNum_len 1073741824 sb
      have e3b := Fi.tkNum_le 1073741824 sb
      generalize tkNum 1073741824 sb = y3 at *
      obtain ⟨c, sc⟩ := y3
      simp only at hX e3 e3b
      have HX4 := Lib.hid (fun W (h : Rr.Tk W (w.heap.size + 1) sc) => Rr.uint_any (w.heap.size + 1) sc 1073741824 1073741824 rfl W h (by omega) (by decide))
      have e4 := Fi.tkNum_len 1073741824 sc
      have e4b := Fi.tkNum_le 1073741824 sc
      generalize tkNum 1073741824 sc = y4 at *
      obtain ⟨d, sd⟩ := y4
      simp only at hX e4 e4b
      have HX5 := Lib.hid (fun W (h : Rr.Tk W (w.heap.size + 1) sd) => Rr.text_any (w.heap.size + 1) sd 96 96 rfl W h (by omega) (by omega))
      have e5 := Fi.tkText_len 96 sd
      generalize tkText 96 sd = y5 at *
      obtain ⟨lo, se⟩ := y5
      simp only at hX e5
      have HX6 := Lib.hid (fun W (h : Rr.Tk W (w.heap.size + 1) se) => Rr.text_any (w.heap.size + 1) se 96 96 rfl W h (by omega) (by omega))
      have e6 := Fi.tkText_len 96 se
      generalize tkText 96 se = y6 at *
      obtain ⟨hi', sf⟩ := y6
      simp only at hX e6
      subst hX
      simp only at hstep hq1 hq2
      have HST := Lib.hid hstep
      have HS := Lib.hid hS
      have hw2 : IntKind.i64.wrap (b : Int) = (b : Int) := by rw [IntKind.wrap_i64]; omega
      have hw3 : IntKind.i64.wrap (c : Int) = (c : Int) := by rw [IntKind.wrap_i64]; omega
      have hw4 : IntKind.i64.wrap (d : Int) = (d : Int) := by rw [IntKind.wrap_i64]; omega
      clear hgo hS hstep e2b e3b e4b b0 b1 b2 b3 b4 f3 f4
      go_wp2_with (first
        | (go_at_call 30; (with_reducible refine (HX1.out _ HS.out.tk).mono ?_); rintro e w1 ⟨rfl, hT, hk⟩; have HS1 := Lib.hid (HS.out.call hk hT))
        | (go_at_call 30; (with_reducible refine (HX2.out _ HS1.out.tk).mono ?_); rintro e w2 ⟨rfl, hT, hk⟩; have HS2 := Lib.hid (HS1.out.call hk hT))
        | (go_at_call 30; (with_reducible refine (HX3.out _ HS2.out.tk).mono ?_); rintro e w3 ⟨rfl, hT, hk⟩; have HS3 := Lib.hid (HS2.out.call hk hT))
        | (go_at_call 30; (with_reducible refine (HX4.out _ HS3.out.tk).mono ?_); rintro e w4 ⟨rfl, hT, hk⟩; have HS4 := Lib.hid (HS3.out.call hk hT))
        | (go_at_call 31; (with_reducible refine (HX5.out _ HS4.out.tk).mono ?_); rintro e w5 ⟨rfl, hT, hk⟩; have HS5 := Lib.hid (HS4.out.call hk hT))
        | (go_at_call 31; (with_reducible refine (HX6.out _ HS5.out.tk).mono ?_); rintro e w6 ⟨rfl, hT, hk⟩; have HS6 := Lib.hid (HS5.out.call hk hT); have HS7 := Lib.hid (HS6.out.below ((Below.refl _ _).alloc (Nat.le_refl _) (.cells #[.int .u64 (a : Int), .int .i64 (b : Int), .int .i64 (c : Int), .int .i64 (d : Int), .string (Cd.bs lo), .string (Cd.bs hi')] 44))); obtain ⟨_, _, _, _, _, b3, _, _, _, _, z2⟩ := HS7.out.cells; have hne6 := HS6.out.es.box.lt)
        | (at_builtin; refine wpList_append_own _ rfl _ _ 23 rfl w.heap.size 44 i0 (.agg #[.int .u64 0, .int .i64 0, .int .i64 0, .int .i64 0, .string ⟨#[]⟩, .string ⟨#[]⟩]) 6 64 Try.underlying23 hi hz0 hz1 hz2 rfl (by decide) _ _ _ rfl (HS7.out.es.rowA.alloc _) ⟨w6.heap.size + 1, 0, none⟩ 1 1 [_, _, _, _, _, _] rfl rfl (by simpa using cell_six_new (w6.alloc (.cells #[.int .u64 (a : Int), .int .i64 (b : Int), .int .i64 (c : Int), .int .i64 (d : Int), .string (Cd.bs lo), .string (Cd.bs hi')] 44)) _ _ _ _ _ _ _) (by simp [Value.oneCell']) (by unfold maxLen; omega) (by omega) (by have := HS7.out.be.size; simp at this ⊢; omega) ?_; intro v' w8 hown hgrow _; obtain ⟨ao8, cap8, rfl, _⟩ := Sq.row_cases hown; have HS8 := Lib.hid (HS7.out.below ((Below.refl _ _).alloc (Nat.le_refl _) (.cells #[.int .u64 (a : Int), .int .i64 (b : Int), .int .i64 (c : Int), .int .i64 (d : Int), .string (Cd.bs lo), .string (Cd.bs hi')] 44))); have hob := HS8.out.es.box.grown hgrow (HS8.out.es.box.not_row (by decide) HS8.out.es.rowA); have c8 := hob.cell 3; have f8 := hob.frozen 3; simp at c8; have HS9 := Lib.hid (HS8.out.addT ⟨a, b, c, d, lo, hi'⟩ hown hgrow); clear hown hgrow hob))
      go_roundw
      case rel => exact ⟨k + 1, A ++ [⟨a, b, c, d, lo, hi'⟩], sf, _, by omega, by go_num, HS9.out, by rw [List.length_append, List.length_singleton]; omega, by omega, tin_snoc hpi hq1, HST⟩
      case measure => simp [intOf]; omega
    · have hex : goS rTab K [] sM = (A, s') := by
        rw [hgo.out]
        by_cases hlt : k < K
        · have hsb : s'.2 = true := by cases hx : s'.2 with
            | true => rfl
            | false => exact absurd ⟨hlt, hx⟩ hgoes
          rw [show K - k = (K - (k + 1)) + 1 by omega, goS, if_pos hsb]
        · rw [show K - k = 0 by omega, goS]
      rw [hex] at hA0
      rw [hA0] at hM2 hEd
      simp only at hM2 hEd
      have HX7 := Lib.hid (fun W (h : Rr.Tk W (w.heap.size + 1) s') => Rr.uint_any (w.heap.size + 1) s' 1000 1000 rfl W h (by omega) (by decide))
      have e7 := Fi.tkNum_len 1000 s'
      have e7b := Fi.tkNum_le 1000 s'
      rw [hM2] at hD0
      generalize tkNum 1000 s' = y7 at *
      obtain ⟨K2, s2⟩ := y7
      simp only at hD0 e7 e7b HX7
      have HS := Lib.hid hS
      have HPI := Lib.hid hpi
      have hAK : A.length ≤ 1000 := by omega
      clear hgo hex hA0 hM2 hS b0 b1 b2 b3 b4 f3 f4 t0 hpi hS4 hK hAk
      go_upto_region 5 with fail
      go_cut [33] from 24 to 33 (fun r wx => r = .bool false ∧ wx = wo)
      case first =>
        by_cases hlt : k < K
        · have hsb : s'.2 = true := by cases hx : s'.2 with
            | true => rfl
            | false => exact absurd ⟨hlt, hx⟩ hgoes
          rw [hsb] at t1
          have hi1 : (k : Int) < (K : Int) := by omega
          go_wp2_with fail
          go_meet
          exact ⟨rfl, rfl⟩
        · have hi1 : ¬ (k : Int) < (K : Int) := by omega
          go_wp2_with fail
          go_meet
          exact ⟨rfl, rfl⟩
      case rest =>
      obtain ⟨rfl, rfl⟩ := hcut
      clear t1 hgoes
      go_wp2_with (go_at_call 30; (with_reducible refine (HX7.out _ HS.out.tk).mono ?_); rintro e w5 ⟨rfl, hT, hkk⟩; have HS5 := Lib.hid (HS.out.call hkk hT))
      clear hT hkk HS HX7
      go_loopw [9] (fun i wr => ∃ (k2 : Nat) (D : List Int) (s3 : TkS) (v : Value), k2 ≤ K2 ∧ i = .int .u64 (k2 : Int) ∧ DSt w bb n q g A D (.slice ao A.length cap) v s3 wr ∧ D.length ≤ k2 ∧ s3.1.length ≤ l.length ∧ (∀ d ∈ D, 0 ≤ d ∧ d ≤ 18446744073709551615) ∧ Hid (goS rDrop K2 [] s2 = goS rDrop (K2 - k2) D s3)) (fun i _ => K2 - (intOf i).toNat)
      case atStart => exact ⟨0, [], s2, _, Nat.zero_le _, rfl, HS5.out, Nat.le_refl _, by omega, fun p hp => (by cases hp), rfl⟩
      case round =>
        clear HS5
        obtain ⟨k2, D, s3, v, hk2, rfl, hS, hDk, hsl3, hdi, hgo⟩ := hrel
        obtain ⟨wo, rfl⟩ : ∃ wo : World, wo = wr := ⟨_, rfl⟩
        obtain ⟨t0, t1, b0, b1, b2, b3, b4, f3, f4, z1, z2⟩ := hS.cells
        obtain ⟨do', dcap, rfl, hg1⟩ := Sq.row_cases hS.es.rowD
        by_cases hgoes : k2 < K2 ∧ s3.2 = false
        · obtain ⟨hlt, hsb⟩ := hgoes
          have hX1 : rDrop s3 = (((tkNum 4611686018427387904 s3).1 : Int), (tkNum 4611686018427387904 s3).2) := rfl
          have hstep : goS rDrop K2 [] s2 = goS rDrop (K2 - (k2 + 1)) (D ++ [((tkNum 4611686018427387904 s3).1 : Int)]) (tkNum 4611686018427387904 s3).2 := by
            rw [hgo.out, show K2 - k2 = (K2 - (k2 + 1)) + 1 by omega, goS, if_neg (by rw [hsb]; simp), hX1]
          rw [hsb] at t1
          have hi1 : (k2 : Int) < (K2 : Int) := by omega
          have HX1 := Lib.hid (fun W (h : Rr.Tk W (w.heap.size + 1) s3) => Rr.uint_any (w.heap.size + 1) s3 4611686018427387904 4611686018427387904 rfl W h (by omega) (by decide))
          have e1 := Fi.tkNum_len 4611686018427387904 s3
          have e1b := Fi.tkNum_le 4611686018427387904 s3
          generalize tkNum 4611686018427387904 s3 = y1 at *
          obtain ⟨a, sa⟩ := y1
          simp only at hstep e1 e1b HX1
          have HST := Lib.hid hstep
          have HS := Lib.hid hS
          clear hgo hS hstep b0 b1 b2 b3 b4 f3 f4 hX1
          go_wp2_with (first
            | (go_at_call 30; (with_reducible refine (HX1.out _ HS.out.tk).mono ?_); rintro e w6 ⟨rfl, hT, hk⟩; have HS7 := Lib.hid (HS.out.call hk hT); obtain ⟨_, _, _, _, _, _, b4, _, _, _, z2⟩ := HS7.out.cells)
            | (at_builtin; refine wpList_append_own _ rfl _ _ 24 rfl w.heap.size 22 j0 (.int .u64 0) 1 8 Try.underlying24 ji jz0 jz1 jz2 rfl (by decide) _ _ _ rfl (HS7.out.es.rowD.alloc _) ⟨w6.heap.size, 0, none⟩ 1 1 [_] rfl rfl (cell_one_new _ _ _) (by simp [Value.oneCell']) (by unfold maxLen; omega) (by omega) (by have := HS7.out.be.size; simp at this ⊢; omega) ?_; intro v' w8 hown hgrow _; obtain ⟨ao8, cap8, rfl, _⟩ := Sq.row_cases hown; have HS8 := Lib.hid (HS7.out.below ((Below.refl _ _).alloc (Nat.le_refl _) (.cells #[.int .u64 (a : Int)] 22))); have hob := HS8.out.es.box.grown hgrow (HS8.out.es.box.not_row (by decide) HS8.out.es.rowD); have c8 := hob.cell 4; have f8 := hob.frozen 4; simp at c8; have HS9 := Lib.hid (HS8.out.addD (a : Int) hown hgrow); clear hown hgrow hob))
          go_roundw
          case rel => exact ⟨k2 + 1, D ++ [(a : Int)], sa, _, by omega, by go_num, HS9.out, by rw [List.length_append, List.length_singleton]; omega, by omega, din_snoc hdi ⟨by omega, by omega⟩, HST⟩
          case measure => simp [intOf]; omega
        · have hex : goS rDrop K2 [] s2 = (D, s3) := by
            rw [hgo.out]
            by_cases hlt : k2 < K2
            · have hsb : s3.2 = true := by cases hx : s3.2 with
                | true => rfl
                | false => exact absurd ⟨hlt, hx⟩ hgoes
              rw [show K2 - k2 = (K2 - (k2 + 1)) + 1 by omega, goS, if_pos hsb]
            · rw [show K2 - k2 = 0 by omega, goS]
          rw [hex] at hD0
          rw [hD0] at hEd
          have hdec := HDEC.out
          rw [hD0, hEd] at hdec
          simp only at hdec
          have hED := hS.es.ed HPI.out hdi ⟨by omega, by omega⟩ ⟨by omega, by omega⟩ ⟨by omega, by omega⟩ (by omega) (by omega)
          have HMY := Lib.hid (mayR10_any _ _ _ _ hED)
          have HS := Lib.hid hS
          have HDI := Lib.hid hdi
          have hDK : D.length ≤ 1000 := by omega
          clear hgo hex hD0 hEd hS hdi hED HDEC
          go_upto_region 11 with fail
          go_cut [69] from 60 to 69 (fun r wx => r = .bool false ∧ wx = wo)
          case first =>
            by_cases hlt : k2 < K2
            · have hsb : s3.2 = true := by cases hx : s3.2 with
                | true => rfl
                | false => exact absurd ⟨hlt, hx⟩ hgoes
              rw [hsb] at t1
              have hi1 : (k2 : Int) < (K2 : Int) := by omega
              go_wp2_with fail
              go_meet
              exact ⟨rfl, rfl⟩
            · have hi1 : ¬ (k2 : Int) < (K2 : Int) := by omega
              go_wp2_with fail
              go_meet
              exact ⟨rfl, rfl⟩
          case rest =>
          obtain ⟨rfl, rfl⟩ := hcut
          clear hgoes t0 t1
          obtain ⟨sl, sb⟩ := s3
          unfold edV at HMY
          simp only at hdec HMY
          generalize hmy : mayE ⟨n, q, g, A, D⟩ = my at *
          have h5 : sb = true ∨ (sb = false ∧ sl ≠ []) ∨ (sb = false ∧ sl = [] ∧ my = false) ∨ (sb = false ∧ sl = [] ∧ my = true ∧ ¬ l.length ≤ 262144) ∨ (sb = false ∧ sl = [] ∧ my = true ∧ l.length ≤ 262144) := by
            cases sb <;> cases my <;> by_cases h1 : sl = [] <;> by_cases h2 : l.length ≤ 262144 <;> simp [h1, h2]
          have hsz : (Cd.bs l).size = l.length := rfl
          rcases h5 with rfl | ⟨rfl, h1⟩ | ⟨rfl, rfl, rfl⟩ | ⟨rfl, rfl, rfl, h3⟩ | ⟨rfl, rfl, rfl, h3⟩
          · have HE := Lib.hid (hdec.trans (if_neg (fun h => by cases h.1)))
            clear hdec
            go_wp2_with (go_at_call 24; (with_reducible refine HMY.out.mono ?_); rintro e w7 ⟨rfl, hb7⟩; have HS7 := Lib.hid (HS.out.below hb7); obtain ⟨t0, t1, b0, b1, b2, b3, b4, _, _, z1, z2⟩ := HS7.out.cells; obtain ⟨r0, r1, r2, r3, r4, g0, g1, g2, g3, g4⟩ := HS7.out.rcells; have hlr := HS7.out.res.lt)
            refine bodyPost_ret (v := .tuple #[zeroE, .int .i64 3]) (by simp [zeroE, results, Try.results13, go_sem, r0, r1, r2, r3, r4, hlr]) rfl ?_
            rw [HE.out]
            exact ⟨rfl, ((((HS7.out.be.setCell (by simp) _).setCell (by simp) _).setCell (by simp) _).setCell (by simp) _).setCell (by simp) _⟩
          · have HE := Lib.hid (hdec.trans (if_neg (fun h => h1 h.2.1)))
            have hse : (sl == []) = false := by simpa using h1
            have hse2 : sl.isEmpty = false := by simpa using h1
            clear hdec h1
            go_wp2_with (go_at_call 24; (with_reducible refine HMY.out.mono ?_); rintro e w7 ⟨rfl, hb7⟩; have HS7 := Lib.hid (HS.out.below hb7); obtain ⟨t0, t1, b0, b1, b2, b3, b4, _, _, z1, z2⟩ := HS7.out.cells; obtain ⟨r0, r1, r2, r3, r4, g0, g1, g2, g3, g4⟩ := HS7.out.rcells; have hlr := HS7.out.res.lt)
            refine bodyPost_ret (v := .tuple #[zeroE, .int .i64 3]) (by simp [zeroE, results, Try.results13, go_sem, r0, r1, r2, r3, r4, hlr]) rfl ?_
            rw [HE.out]
            exact ⟨rfl, ((((HS7.out.be.setCell (by simp) _).setCell (by simp) _).setCell (by simp) _).setCell (by simp) _).setCell (by simp) _⟩
          · have HE := Lib.hid (hdec.trans (if_neg (fun h => by cases h.2.2.1)))
            clear hdec
            go_wp2_with (go_at_call 24; (with_reducible refine HMY.out.mono ?_); rintro e w7 ⟨rfl, hb7⟩; have HS7 := Lib.hid (HS.out.below hb7); obtain ⟨t0, t1, b0, b1, b2, b3, b4, _, _, z1, z2⟩ := HS7.out.cells; obtain ⟨r0, r1, r2, r3, r4, g0, g1, g2, g3, g4⟩ := HS7.out.rcells; have hlr := HS7.out.res.lt)
            refine bodyPost_ret (v := .tuple #[zeroE, .int .i64 3]) (by simp [zeroE, results, Try.results13, go_sem, r0, r1, r2, r3, r4, hlr]) rfl ?_
            rw [HE.out]
            exact ⟨rfl, ((((HS7.out.be.setCell (by simp) _).setCell (by simp) _).setCell (by simp) _).setCell (by simp) _).setCell (by simp) _⟩
          · have HE := Lib.hid (hdec.trans (if_neg (fun h => h3 h.2.2.2)))
            have h3i : (262144 : Int) < (l.length : Int) := by omega
            clear hdec h3
            go_wp2_with (go_at_call 24; (with_reducible refine HMY.out.mono ?_); rintro e w7 ⟨rfl, hb7⟩; have HS7 := Lib.hid (HS.out.below hb7); obtain ⟨t0, t1, b0, b1, b2, b3, b4, _, _, z1, z2⟩ := HS7.out.cells; obtain ⟨r0, r1, r2, r3, r4, g0, g1, g2, g3, g4⟩ := HS7.out.rcells; have hlr := HS7.out.res.lt)
            refine bodyPost_ret (v := .tuple #[zeroE, .int .i64 3]) (by simp [zeroE, results, Try.results13, go_sem, r0, r1, r2, r3, r4, hlr]) rfl ?_
            rw [HE.out]
            exact ⟨rfl, ((((HS7.out.be.setCell (by simp) _).setCell (by simp) _).setCell (by simp) _).setCell (by simp) _).setCell (by simp) _⟩
          · have HE := Lib.hid (hdec.trans (if_pos ⟨rfl, rfl, rfl, h3⟩))
            have h3i : ¬ (262144 : Int) < (l.length : Int) := by omega
            clear hdec h3
            go_wp2_with (go_at_call 24; (with_reducible refine HMY.out.mono ?_); rintro e w7 ⟨rfl, hb7⟩; have HS7 := Lib.hid (HS.out.below hb7); obtain ⟨t0, t1, b0, b1, b2, b3, b4, _, _, z1, z2⟩ := HS7.out.cells; obtain ⟨r0, r1, r2, r3, r4, g0, g1, g2, g3, g4⟩ := HS7.out.rcells; have hlr := HS7.out.res.lt)
            refine bodyPost_ret (v := .tuple #[edV ⟨n, q, g, A, D⟩ (.slice ao A.length cap) (.slice do' D.length dcap), .int .i64 0]) (by simp [edV, results, Try.results13, go_sem, r0, r1, r2, r3, r4, hlr]) rfl ?_
            rw [HE.out]
            refine ⟨_, _, rfl, ?_, ((((HS7.out.be.setCell (by simp) _).setCell (by simp) _).setCell (by simp) _).setCell (by simp) _).setCell (by simp) _⟩
            exact ⟨tbs_of_own (Ob.row_other (Ob.row_other (Ob.row_other (Ob.row_other (Ob.row_other (HS7.out.es.rowA) (p := ⟨w.heap.size, 0, none⟩) (HS7.out.res.not_row (by decide) HS7.out.es.rowA) _) (p := ⟨w.heap.size, 1, none⟩) (HS7.out.res.not_row (by decide) HS7.out.es.rowA) _) (p := ⟨w.heap.size, 2, none⟩) (HS7.out.res.not_row (by decide) HS7.out.es.rowA) _) (p := ⟨w.heap.size, 3, none⟩) (HS7.out.res.not_row (by decide) HS7.out.es.rowA) _) (p := ⟨w.heap.size, 4, none⟩) (HS7.out.res.not_row (by decide) HS7.out.es.rowA) _), ns_of_own (Ob.row_other (Ob.row_other (Ob.row_other (Ob.row_other (Ob.row_other (HS7.out.es.rowD) (p := ⟨w.heap.size, 0, none⟩) (HS7.out.res.not_row (by decide) HS7.out.es.rowD) _) (p := ⟨w.heap.size, 1, none⟩) (HS7.out.res.not_row (by decide) HS7.out.es.rowD) _) (p := ⟨w.heap.size, 2, none⟩) (HS7.out.res.not_row (by decide) HS7.out.es.rowD) _) (p := ⟨w.heap.size, 3, none⟩) (HS7.out.res.not_row (by decide) HS7.out.es.rowD) _) (p := ⟨w.heap.size, 4, none⟩) (HS7.out.res.not_row (by decide) HS7.out.es.rowD) _), HPI.out, HDI.out, by show (0 : Int) ≤ n; omega, by show (n : Int) ≤ _; omega, by show (0 : Int) ≤ q; omega, by show (q : Int) ≤ _; omega, by show (0 : Int) ≤ g; omega, by show (g : Int) ≤ _; omega, by show A.length ≤ _; omega, by show D.length ≤ _; omega⟩
end Mf
end Go.Proofs.Yteckjhhbljoklaa

/-
  The program's manifest: Decode; the law ManifestDecodes.
-/
namespace Go.Proofs.Yteckjhhbljoklaa
open Go.RowKit
set_option linter.unusedSimpArgs false
set_option linter.unusedVariables false
namespace Md10
open Mf
theorem dec_out_none {d : Option Ed} {w W : World} {r : Ending} (h1 : d = none) (hr : r = .returned (.tuple #[zeroE, .int .i64 3])) (hb : Below w.heap.size w W) : DecOut10 d w r W := by
  subst h1
  exact ⟨hr, hb⟩
theorem dec_out_some {d : Option Ed} {e : Ed} {av dv : Value} {w W : World} {r : Ending} (h1 : d = some e) (hr : r = .returned (.tuple #[edV e av dv, .int .i64 0])) (hE : EdIn W.heap.size W e av dv) (hb : Below w.heap.size w W) : DecOut10 d w r W := by
  subst h1
  exact ⟨av, dv, hr, hE, hb⟩
/-- an edit in rows of its own, behind stores elsewhere -/
theorem EdIn.own {B : Nat} {W W' : World} {e : Ed} {av dv : Value} (h : EdIn W.heap.size W e av dv) (hA : W'.ownsRow B 44 6 av e.add.length (tcs e.add)) (hD : W'.ownsRow B 22 1 dv e.drop.length (nC e.drop)) : EdIn W'.heap.size W' e av dv :=
  ⟨tbs_of_own hA, ns_of_own hD, h.each, h.ds, h.n0, h.n1, h.s0, h.s1, h.l0, h.l1, h.many, h.few⟩

set_option maxRecDepth 100000 in
set_option maxHeartbeats 8000000 in
theorem decode_any (l : List UInt8) (w : World) (hl : l.length ≤ 140737488351232) :
    Calls Try.prog 12 #[.string (Cd.bs l)] w (DecOut10 (decD10 l) w) := by
  have oR := Ob.Obj.new w 26 [.int .u64 0, .int .u64 0, .int .u64 0, .slice none 0 0, .slice none 0 0]
  have hW : Below w.heap.size w (w.alloc (.cells #[.int .u64 0, .int .u64 0, .int .u64 0, .slice none 0 0, .slice none 0 0] 26)) := (Below.refl _ _).alloc (Nat.le_refl _) _
  have hT := takeEdit_any l (w.alloc (.cells #[.int .u64 0, .int .u64 0, .int .u64 0, .slice none 0 0, .slice none 0 0] 26)) hl
  unfold TakeOut10 at hT
  have hdec : decD10 l = if (dD l).2.2 = false ∧ (dD l).2.1 = [] ∧ mayE (dE l) = true then some (dE l) else none := by rw [decD10]
  have hgood : decide ((dD l).2.2 = false ∧ (dD l).2.1 = []) = true → mayE (dE l) = true → decD10 l = some (dE l) := fun h1 h2 => by
    have h3 := of_decide_eq_true h1
    rw [hdec, if_pos ⟨h3.1, h3.2, h2⟩]
  have hbad1 : decide ((dD l).2.2 = false ∧ (dD l).2.1 = []) = false → decD10 l = none := fun h1 => by
    have h3 := of_decide_eq_false h1
    rw [hdec, if_neg (fun h => h3 ⟨h.1, h.2.1⟩)]
  have hbad2 : mayE (dE l) = false → decD10 l = none := fun h1 => by
    rw [hdec, if_neg (fun h => by rw [h1] at h; cases h.2.2)]
  generalize decide ((dD l).2.2 = false ∧ (dD l).2.1 = []) = ok at *
  have HMY := Lib.hid (fun W av dv (h : EdIn W.heap.size W (dE l) av dv) => editMayBe_any (dE l) av dv W h)
  generalize decD10 l = dd at *
  generalize dE l = e at *
  clear hdec
  have HT := Lib.hid hT
  obtain ⟨next, seq, log, add, drop⟩ := e
  unfold edV at HMY HT
  simp only at HMY HT
  cases ok with
  | false =>
    have HE := Lib.hid (hbad1 rfl)
    clear hbad1 hbad2 hgood hT HMY
    go_enter Try.func12, Try.ntmps12
    go_wp2_with (go_at_call 29; (with_reducible refine HT.out.mono ?_); rintro e w1 ⟨av, dv, rfl, hE1, ⟨hA1, hD1⟩, hb1⟩; have oR1 := oR.below hb1; have r0 := oR1.cell 0; have r1 := oR1.cell 1; have r2 := oR1.cell 2; have r3 := oR1.cell 3; have r4 := oR1.cell 4; have f0 := oR1.frozen 0; have f1 := oR1.frozen 1; have f2 := oR1.frozen 2; have f3 := oR1.frozen 3; have f4 := oR1.frozen 4; have hlr := oR1.lt; simp at r0 r1 r2 r3 r4; have HB1 := Lib.hid (hW.trans (hb1.mono (by simp))); obtain ⟨aa, acap, _, _, rfl, _⟩ := hE1.add; obtain ⟨da, dcap, _, _, rfl, _⟩ := hE1.drop; have hbA := (Below.refl w1.heap.size w1).alloc (Nat.le_refl _) (.cells #[.int .u64 next, .int .u64 seq, .int .u64 log, .slice aa add.length acap, .slice da drop.length dcap] 26); have HE2 := Lib.hid (hE1.grow hbA hbA.size); have HO2 := Lib.hid (And.intro (own_below hA1 hbA) (own_below hD1 hbA)); have hoE := Ob.Obj.new w1 26 [.int .u64 next, .int .u64 seq, .int .u64 log, .slice aa add.length acap, .slice da drop.length dcap]; have oR2 := oR1.alloc (.cells #[.int .u64 next, .int .u64 seq, .int .u64 log, .slice aa add.length acap, .slice da drop.length dcap] 26); have HB2 := Lib.hid (HB1.out.trans (hbA.mono HB1.out.size)))
    refine bodyPost_ret (v := .tuple #[zeroE, .int .i64 3]) (by simp [zeroE, results, Try.results12, go_sem, r0, r1, r2, r3, r4, hlr]) rfl ?_
    exact dec_out_none HE.out rfl ((((((HB1.out.setCell (by simp) _).setCell (by simp) _).setCell (by simp) _).setCell (by simp) _).setCell (by simp) _).alloc (by have := HB1.out.size; simpa using this) _)
  | true =>
    cases hmy : mayE ⟨next, seq, log, add, drop⟩ with
    | false =>
      have HE := Lib.hid (hbad2 hmy)
      rw [hmy] at HMY
      clear hbad1 hbad2 hgood hT hmy
      go_enter Try.func12, Try.ntmps12
      go_wp2_with (first | (go_at_call 29; (with_reducible refine HT.out.mono ?_); rintro e w1 ⟨av, dv, rfl, hE1, ⟨hA1, hD1⟩, hb1⟩; have oR1 := oR.below hb1; have r0 := oR1.cell 0; have r1 := oR1.cell 1; have r2 := oR1.cell 2; have r3 := oR1.cell 3; have r4 := oR1.cell 4; have f0 := oR1.frozen 0; have f1 := oR1.frozen 1; have f2 := oR1.frozen 2; have f3 := oR1.frozen 3; have f4 := oR1.frozen 4; have hlr := oR1.lt; simp at r0 r1 r2 r3 r4; have HB1 := Lib.hid (hW.trans (hb1.mono (by simp))); obtain ⟨aa, acap, _, _, rfl, _⟩ := hE1.add; obtain ⟨da, dcap, _, _, rfl, _⟩ := hE1.drop; have hbA := (Below.refl w1.heap.size w1).alloc (Nat.le_refl _) (.cells #[.int .u64 next, .int .u64 seq, .int .u64 log, .slice aa add.length acap, .slice da drop.length dcap] 26); have HE2 := Lib.hid (hE1.grow hbA hbA.size); have HO2 := Lib.hid (And.intro (own_below hA1 hbA) (own_below hD1 hbA)); have hoE := Ob.Obj.new w1 26 [.int .u64 next, .int .u64 seq, .int .u64 log, .slice aa add.length acap, .slice da drop.length dcap]; have oR2 := oR1.alloc (.cells #[.int .u64 next, .int .u64 seq, .int .u64 log, .slice aa add.length acap, .slice da drop.length dcap] 26); have HB2 := Lib.hid (HB1.out.trans (hbA.mono HB1.out.size))) | (go_at_call 21; (with_reducible refine (HMY.out _ _ _ HE2.out).mono ?_); rintro e w3 ⟨rfl, hb3⟩; have oR3 := oR2.below hb3; have q0 := oR3.cell 0; have q1 := oR3.cell 1; have q2 := oR3.cell 2; have q3 := oR3.cell 3; have q4 := oR3.cell 4; have h0 := oR3.frozen 0; have h1 := oR3.frozen 1; have h2 := oR3.frozen 2; have h3 := oR3.frozen 3; have h4 := oR3.frozen 4; have hlr3 := oR3.lt; simp at q0 q1 q2 q3 q4; have oE3 := hoE.below hb3; have u0 := oE3.cell 0; have u1 := oE3.cell 1; have u2 := oE3.cell 2; have u3 := oE3.cell 3; have u4 := oE3.cell 4; have hle3 := oE3.lt; simp at u0 u1 u2 u3 u4; have HE3 := Lib.hid (HE2.out.grow hb3 hb3.size); have HO3 := Lib.hid (And.intro (own_below HO2.out.1 hb3) (own_below HO2.out.2 hb3)); have HR3 := Lib.hid oR3; have HB3 := Lib.hid (HB2.out.trans (hb3.mono HB2.out.size))))
      refine bodyPost_ret (v := .tuple #[zeroE, .int .i64 3]) (by simp [zeroE, results, Try.results12, go_sem, q0, q1, q2, q3, q4, hlr3]) rfl ?_
      exact dec_out_none HE.out rfl (((((HB3.out.setCell (by simp) _).setCell (by simp) _).setCell (by simp) _).setCell (by simp) _).setCell (by simp) _)
    | true =>
      have HE := Lib.hid (hgood rfl hmy)
      rw [hmy] at HMY
      clear hbad1 hbad2 hgood hT hmy
      go_enter Try.func12, Try.ntmps12
      go_wp2_with (first | (go_at_call 29; (with_reducible refine HT.out.mono ?_); rintro e w1 ⟨av, dv, rfl, hE1, ⟨hA1, hD1⟩, hb1⟩; have oR1 := oR.below hb1; have r0 := oR1.cell 0; have r1 := oR1.cell 1; have r2 := oR1.cell 2; have r3 := oR1.cell 3; have r4 := oR1.cell 4; have f0 := oR1.frozen 0; have f1 := oR1.frozen 1; have f2 := oR1.frozen 2; have f3 := oR1.frozen 3; have f4 := oR1.frozen 4; have hlr := oR1.lt; simp at r0 r1 r2 r3 r4; have HB1 := Lib.hid (hW.trans (hb1.mono (by simp))); obtain ⟨aa, acap, _, _, rfl, _⟩ := hE1.add; obtain ⟨da, dcap, _, _, rfl, _⟩ := hE1.drop; have hbA := (Below.refl w1.heap.size w1).alloc (Nat.le_refl _) (.cells #[.int .u64 next, .int .u64 seq, .int .u64 log, .slice aa add.length acap, .slice da drop.length dcap] 26); have HE2 := Lib.hid (hE1.grow hbA hbA.size); have HO2 := Lib.hid (And.intro (own_below hA1 hbA) (own_below hD1 hbA)); have hoE := Ob.Obj.new w1 26 [.int .u64 next, .int .u64 seq, .int .u64 log, .slice aa add.length acap, .slice da drop.length dcap]; have oR2 := oR1.alloc (.cells #[.int .u64 next, .int .u64 seq, .int .u64 log, .slice aa add.length acap, .slice da drop.length dcap] 26); have HB2 := Lib.hid (HB1.out.trans (hbA.mono HB1.out.size))) | (go_at_call 21; (with_reducible refine (HMY.out _ _ _ HE2.out).mono ?_); rintro e w3 ⟨rfl, hb3⟩; have oR3 := oR2.below hb3; have q0 := oR3.cell 0; have q1 := oR3.cell 1; have q2 := oR3.cell 2; have q3 := oR3.cell 3; have q4 := oR3.cell 4; have h0 := oR3.frozen 0; have h1 := oR3.frozen 1; have h2 := oR3.frozen 2; have h3 := oR3.frozen 3; have h4 := oR3.frozen 4; have hlr3 := oR3.lt; simp at q0 q1 q2 q3 q4; have oE3 := hoE.below hb3; have u0 := oE3.cell 0; have u1 := oE3.cell 1; have u2 := oE3.cell 2; have u3 := oE3.cell 3; have u4 := oE3.cell 4; have hle3 := oE3.lt; simp at u0 u1 u2 u3 u4; have HE3 := Lib.hid (HE2.out.grow hb3 hb3.size); have HO3 := Lib.hid (And.intro (own_below HO2.out.1 hb3) (own_below HO2.out.2 hb3)); have HR3 := Lib.hid oR3; have HB3 := Lib.hid (HB2.out.trans (hb3.mono HB2.out.size))))
      refine bodyPost_ret (v := .tuple #[edV ⟨next, seq, log, add, drop⟩ (.slice aa add.length acap) (.slice da drop.length dcap), .int .i64 0]) (by simp [edV, results, Try.results12, go_sem, q0, q1, q2, q3, q4, hlr3]) rfl ?_
      exact dec_out_some HE.out rfl (EdIn.own HE3.out (Ob.row_other (Ob.row_other (Ob.row_other (Ob.row_other (Ob.row_other (HO3.out.1) (p := ⟨w.heap.size, 0, none⟩) (HR3.out.not_row (by decide) HO3.out.1) _) (p := ⟨w.heap.size, 1, none⟩) (HR3.out.not_row (by decide) HO3.out.1) _) (p := ⟨w.heap.size, 2, none⟩) (HR3.out.not_row (by decide) HO3.out.1) _) (p := ⟨w.heap.size, 3, none⟩) (HR3.out.not_row (by decide) HO3.out.1) _) (p := ⟨w.heap.size, 4, none⟩) (HR3.out.not_row (by decide) HO3.out.1) _) (Ob.row_other (Ob.row_other (Ob.row_other (Ob.row_other (Ob.row_other (HO3.out.2) (p := ⟨w.heap.size, 0, none⟩) (HR3.out.not_row (by decide) HO3.out.2) _) (p := ⟨w.heap.size, 1, none⟩) (HR3.out.not_row (by decide) HO3.out.2) _) (p := ⟨w.heap.size, 2, none⟩) (HR3.out.not_row (by decide) HO3.out.2) _) (p := ⟨w.heap.size, 3, none⟩) (HR3.out.not_row (by decide) HO3.out.2) _) (p := ⟨w.heap.size, 4, none⟩) (HR3.out.not_row (by decide) HO3.out.2) _)) (((((HB3.out.setCell (by simp) _).setCell (by simp) _).setCell (by simp) _).setCell (by simp) _).setCell (by simp) _)

set_option maxRecDepth 100000 in
set_option maxHeartbeats 4000000 in
theorem manifestDecodes_law (s : ByteArray) (w : World) (hs : s.size ≤ 1048576) :
    Calls Try.prog 4 #[.string s] w fun e w' => e = .returned (.bool true) ∧ Below w.heap.size w w' := by
  obtain ⟨l, rfl⟩ : ∃ l, s = Cd.bs l := ⟨s.data.toList, (Lib.mk_data s).symm⟩
  have hl : l.length ≤ 140737488351232 := by have : l.length ≤ 1048576 := hs; omega
  have hD := fun W => decode_any l W hl
  have hR := fun W => decodeR10_any l W hl
  rw [dec_same l] at hD
  cases hd : decR10 l with
  | none =>
    rw [hd] at hD hR
    unfold DecOut10 zeroE at hD hR
    simp only at hD hR
    have HD := Lib.hid hD
    have HR := Lib.hid hR
    clear hD hR hd
    have hnil : ∀ W : World, EdIn W.heap.size W ⟨0, 0, 0, [], []⟩ (.slice none 0 0) (.slice none 0 0) := fun W => ⟨⟨none, 0, 0, 0, rfl, fun h => absurd h (by simp), fun j hj => absurd hj (by simp)⟩, ⟨none, 0, 0, 0, rfl, fun h => absurd h (by simp), fun j hj => absurd hj (by simp)⟩, fun x hx => (by cases hx), fun x hx => (by cases hx), by simp, by simp, by simp, by simp, by simp, by simp, by simp, by simp⟩
    have HS := Lib.hid (fun W => show Calls Try.prog 11 #[.agg #[.int .u64 0, .int .u64 0, .int .u64 0, .slice none 0 0, .slice none 0 0], .agg #[.int .u64 0, .int .u64 0, .int .u64 0, .slice none 0 0, .slice none 0 0]] W fun e w' => e = .returned (.bool true) ∧ Below W.heap.size W w' from sameEdit_eq ⟨0, 0, 0, [], []⟩ _ _ _ _ W (hnil W) (hnil W))
    clear hnil
    go_enter Try.func4, Try.ntmps4
    go_wp2_with (first
      | (go_at_call 12; (with_reducible refine (HD.out _).mono ?_); rintro e w1 ⟨rfl, hb1⟩; have HB1 := Lib.hid (hb1.alloc hb1.size (.cells #[.int .u64 0, .int .u64 0, .int .u64 0, .slice none 0 0, .slice none 0 0] 26)); have o1 := Ob.Obj.new w1 26 [.int .u64 0, .int .u64 0, .int .u64 0, .slice none 0 0, .slice none 0 0])
      | (go_at_call 13; (with_reducible refine (HR.out _).mono ?_); rintro e w2 ⟨rfl, hb2⟩; have HB2 := Lib.hid ((HB1.out.trans (hb2.mono HB1.out.size)).alloc (HB1.out.trans (hb2.mono HB1.out.size)).size (.cells #[.int .u64 0, .int .u64 0, .int .u64 0, .slice none 0 0, .slice none 0 0] 26)); have o2 := (o1.below hb2).alloc (.cells #[.int .u64 0, .int .u64 0, .int .u64 0, .slice none 0 0, .slice none 0 0] 26); have a0 := (o1.below hb2).cell 0; have a1 := (o1.below hb2).cell 1; have a2 := (o1.below hb2).cell 2; have a3 := (o1.below hb2).cell 3; have a4 := (o1.below hb2).cell 4; have az := (o1.below hb2).lt; simp at a0 a1 a2 a3 a4)
      | (go_at_call 11; (with_reducible refine (HS.out _).mono ?_); rintro e w3 ⟨rfl, hb3⟩))
    go_ret
    exact ⟨rfl, HB2.out.trans (hb3.mono HB2.out.size)⟩
  | some e =>
    rw [hd] at hD hR
    unfold DecOut10 at hD hR
    simp only at hD hR
    have HD := Lib.hid hD
    have HR := Lib.hid hR
    have HSE := Lib.hid (fun W bv ev cv fv (h1 : EdIn W.heap.size W e bv ev) (h2 : EdIn W.heap.size W e cv fv) => sameEdit_eq e bv ev cv fv W h1 h2)
    clear hD hR hd
    obtain ⟨next, seq, log, add, drop⟩ := e
    unfold edV at HD HR HSE
    simp only at HD HR HSE
    go_enter Try.func4, Try.ntmps4
    go_wp2_with (first
      | (go_at_call 12; (with_reducible refine (HD.out _).mono ?_); rintro e w1 ⟨av, dv, rfl, hE1, hb1⟩; obtain ⟨aa, acap, _, _, rfl, _⟩ := hE1.add; obtain ⟨da, dcap, _, _, rfl, _⟩ := hE1.drop; have HB1 := Lib.hid (hb1.alloc hb1.size (.cells #[.int .u64 next, .int .u64 seq, .int .u64 log, .slice aa add.length acap, .slice da drop.length dcap] 26)); have o1 := Ob.Obj.new w1 26 [.int .u64 next, .int .u64 seq, .int .u64 log, .slice aa add.length acap, .slice da drop.length dcap]; have hbA := (Below.refl w1.heap.size w1).alloc (Nat.le_refl _) (.cells #[.int .u64 next, .int .u64 seq, .int .u64 log, .slice aa add.length acap, .slice da drop.length dcap] 26); have HE1 := Lib.hid (hE1.grow hbA hbA.size))
      | (go_at_call 13; (with_reducible refine (HR.out _).mono ?_); rintro e w2 ⟨av2, dv2, rfl, hE2, hb2⟩; obtain ⟨ba, bcap, _, _, rfl, _⟩ := hE2.add; obtain ⟨ea, ecap, _, _, rfl, _⟩ := hE2.drop; have HB2 := Lib.hid ((HB1.out.trans (hb2.mono HB1.out.size)).alloc (HB1.out.trans (hb2.mono HB1.out.size)).size (.cells #[.int .u64 next, .int .u64 seq, .int .u64 log, .slice ba add.length bcap, .slice ea drop.length ecap] 26)); have a0 := (o1.below hb2).cell 0; have a1 := (o1.below hb2).cell 1; have a2 := (o1.below hb2).cell 2; have a3 := (o1.below hb2).cell 3; have a4 := (o1.below hb2).cell 4; have az := (o1.below hb2).lt; simp at a0 a1 a2 a3 a4; have hbB := (Below.refl w2.heap.size w2).alloc (Nat.le_refl _) (.cells #[.int .u64 next, .int .u64 seq, .int .u64 log, .slice ba add.length bcap, .slice ea drop.length ecap] 26); have HF2 := Lib.hid (hE2.grow hbB hbB.size); have HF1 := Lib.hid ((HE1.out.grow hb2 hb2.size).grow hbB hbB.size))
      | (go_at_call 11; (with_reducible refine (HSE.out _ _ _ _ _ HF1.out HF2.out).mono ?_); rintro e w3 ⟨rfl, hb3⟩))
    go_ret
    exact ⟨rfl, HB2.out.trans (hb3.mono HB2.out.size)⟩
end Md10
end Go.Proofs.Yteckjhhbljoklaa
