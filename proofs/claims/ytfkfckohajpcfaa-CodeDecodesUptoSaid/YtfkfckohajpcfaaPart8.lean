import Derived.Deep.DeepCutAuto
import Derived.Deep.Cut
import Derived.Deep.CutRange
import Derived.Deep.CutBlock
import Derived.StillTailTactics
import Derived.Test.YtfkfckohajpcfaaPart7
/-
  The document's reader of numbers (tapestryref13.Read): Uint, Int.
-/
namespace Go.Proofs.Ytfkfckohajpcfaa
open Go.RowKit
set_option linter.unusedSimpArgs false
set_option linter.unusedVariables false
namespace Co
/-- the document's reader, in block t -/
def Tr (W : World) (t : Nat) (l : Dat) (s : RS) : Prop := Ob.Obj W t 75 [.string (Cd.bs l), .int .i64 (s.1 : Int), .int .i64 (s.2 : Int)]

set_option maxRecDepth 100000 in
set_option maxHeartbeats 4000000 in
theorem uintR_any (t : Nat) (l : Dat) (s : RS) (M : Int) (most : Nat) (hM : M = most) (w : World) (h : Tr w t l s) (hs : s.1 ≤ l.length) (hl : l.length ≤ 2097152) (hm : most ≤ 1099511627776) :
    Calls Try.prog 40 #[.pointer (some ⟨t, 0, none⟩), .int .u64 M] w fun r w' => r = .returned (.int .i64 ((rdU l most s).1 : Int)) ∧ Tr w' t l (rdU l most s).2 ∧ Sq.Kept (fun k => k ≠ t) w w' := by
  subst hM
  have hT := fun W => taker_any (Cd.bs (l.drop s.1)) W (by show (l.drop s.1).length ≤ maxLen; rw [List.length_drop]; unfold maxLen; omega)
  change ∀ W, Calls _ _ _ W fun e w' => e = .returned (.tuple #[.int .u64 (Cd.takeU (l.drop s.1)).1, .int .i64 (Cd.takeU (l.drop s.1)).2.1, .int .i64 (Cd.takeU (l.drop s.1)).2.2]) ∧ W = w' at hT
  obtain ⟨o1, o2, o3, o4⟩ := Cd.takeU_ok (l.drop s.1)
  rw [List.length_drop] at o3
  obtain ⟨n, k, e, ht⟩ : ∃ n k e, Cd.takeU (l.drop s.1) = (n, k, e) := ⟨_, _, _, rfl⟩
  rw [ht] at hT o1 o2 o3 o4
  simp only at o1 o2 o3 o4
  have hrd : rdU l most s = if s.2 ≠ 0 then (0, s) else if e ≠ 0 then (0, (s.1, e)) else if most < n then (0, (s.1, 3)) else (n, (s.1 + k, 0)) := by unfold rdU; rw [ht]
  clear ht
  have c0 := Ob.Obj.cell h 0
  have c1 := Ob.Obj.cell h 1
  have c2 := Ob.Obj.cell h 2
  have f1 := Ob.Obj.frozen h 1
  have f2 := Ob.Obj.frozen h 2
  simp at c0 c1 c2
  have hsz : (Cd.bs l).size = l.length := rfl
  have hx := ext_drop13 l s.1
  have H := Lib.hid (show Tr w t l s from h)
  have HK := Lib.hid (fun (W : World) (o : Nat) (u : Value) => Sq.Kept.setCell (T := fun k => k ≠ t) W (p := ⟨t, o, none⟩) u (fun h => h rfl))
  have HT := Lib.hid hT
  have hi1 : (0 : Int) ≤ (s.1 : Int) ∧ (s.1 : Int) ≤ (l.length : Int) := by omega
  have hwr : IntKind.i64.wrap ((s.1 : Int) + (k : Int)) = (s.1 : Int) + (k : Int) := by rw [IntKind.wrap_i64]; omega
  obtain ⟨at', err⟩ := s
  simp only at *
  have HRD := Lib.hid hrd
  clear hT h hrd o2
  by_cases h0 : err = 0
  · subst h0
    by_cases he : e = 0
    · subst he
      by_cases hn : most < n
      · have HR := Lib.hid (HRD.out.trans (show _ = (0, (at', 3)) by rw [if_neg (by simp), if_neg (by simp), if_pos hn]))
        have hni : (most : Int) < (n : Int) := by omega
        rw [HR.out]
        clear HRD hn
        go_enter Try.func40, Try.ntmps40
        go_wp2_with fail
        go_region_with (go_at_call 55; (try rw [hx]); (with_reducible refine (HT.out _).mono ?_); rintro e w1 ⟨rfl, rfl⟩)
        all_goals go_wp2_with fail
        all_goals go_ret
        all_goals exact ⟨rfl, Ob.Obj.set (show Tr w.drew t l (at', 0) from H.out) 2 (.int .i64 3), (Sq.Kept.drew _ _).trans (HK.out _ _ _)⟩
      · have HR := Lib.hid (HRD.out.trans (show _ = (n, (at' + k, 0)) by rw [if_neg (by simp), if_neg (by simp), if_neg hn]))
        have hni : ¬ (most : Int) < (n : Int) := by omega
        have hw : IntKind.i64.wrap (n : Int) = (n : Int) := by rw [IntKind.wrap_i64]; omega
        rw [HR.out]
        clear HRD hn
        go_enter Try.func40, Try.ntmps40
        go_wp2_with fail
        go_region_with (go_at_call 55; (try rw [hx]); (with_reducible refine (HT.out _).mono ?_); rintro e w1 ⟨rfl, rfl⟩)
        all_goals go_wp2_with fail
        all_goals go_ret
        all_goals exact ⟨rfl, Ob.Obj.set (show Tr w.drew t l (at', 0) from H.out) 1 (.int .i64 ((at' : Int) + (k : Int))), (Sq.Kept.drew _ _).trans (HK.out _ _ _)⟩
    · have HR := Lib.hid (HRD.out.trans (show _ = (0, (at', e)) by rw [if_neg (by simp), if_pos he]))
      have heb : (((e : Nat) : Int) != 0) = true := by simp; omega
      rw [HR.out]
      clear HRD he
      go_enter Try.func40, Try.ntmps40
      go_wp2_with fail
      go_region_with (go_at_call 55; (try rw [hx]); (with_reducible refine (HT.out _).mono ?_); rintro e w1 ⟨rfl, rfl⟩)
      all_goals go_wp2_with fail
      all_goals go_ret
      all_goals exact ⟨rfl, Ob.Obj.set (show Tr w.drew t l (at', 0) from H.out) 2 (.int .i64 (e : Int)), (Sq.Kept.drew _ _).trans (HK.out _ _ _)⟩
  · have HR := Lib.hid (HRD.out.trans (show _ = (0, (at', err)) by rw [if_pos h0]))
    have heb : (((err : Nat) : Int) != 0) = true := by simp; omega
    rw [HR.out]
    clear HRD h0
    go_enter Try.func40, Try.ntmps40
    go_wp2_with fail
    go_ret
    exact ⟨rfl, H.out, Sq.Kept.refl _ _⟩

set_option maxRecDepth 100000 in
set_option maxHeartbeats 4000000 in
theorem intR_any (t : Nat) (l : Dat) (s : RS) (w : World) (h : Tr w t l s) (hs : s.1 ≤ l.length) (hl : l.length ≤ 2097152) :
    Calls Try.prog 56 #[.pointer (some ⟨t, 0, none⟩)] w fun r w' => r = .returned (.int .i64 (rdI l s).1) ∧ Tr w' t l (rdI l s).2 ∧ Sq.Kept (fun k => k ≠ t) w w' := by
  have hT := fun W => takeIr_any (Cd.bs (l.drop s.1)) W (by show (l.drop s.1).length ≤ maxLen; rw [List.length_drop]; unfold maxLen; omega)
  change ∀ W, Calls _ _ _ W fun e w' => e = .returned (.tuple #[.int .i64 (Cd.unzig (Cd.takeU (l.drop s.1)).1), .int .i64 (Cd.takeU (l.drop s.1)).2.1, .int .i64 (Cd.takeU (l.drop s.1)).2.2]) ∧ W = w' at hT
  obtain ⟨o1, o2, o3, o4⟩ := Cd.takeU_ok (l.drop s.1)
  rw [List.length_drop] at o3
  obtain ⟨n, k, e, ht⟩ : ∃ n k e, Cd.takeU (l.drop s.1) = (n, k, e) := ⟨_, _, _, rfl⟩
  rw [ht] at hT o1 o2 o3 o4
  simp only at o1 o2 o3 o4
  have hrd : rdI l s = if s.2 ≠ 0 then (0, s) else if e ≠ 0 then (0, (s.1, e)) else (Cd.unzig n, (s.1 + k, 0)) := by unfold rdI; rw [ht]
  clear ht
  have c0 := Ob.Obj.cell h 0
  have c1 := Ob.Obj.cell h 1
  have c2 := Ob.Obj.cell h 2
  have f1 := Ob.Obj.frozen h 1
  have f2 := Ob.Obj.frozen h 2
  simp at c0 c1 c2
  have hsz : (Cd.bs l).size = l.length := rfl
  have hx := ext_drop13 l s.1
  have H := Lib.hid (show Tr w t l s from h)
  have HK := Lib.hid (fun (W : World) (o : Nat) (u : Value) => Sq.Kept.setCell (T := fun k => k ≠ t) W (p := ⟨t, o, none⟩) u (fun h => h rfl))
  have HT := Lib.hid hT
  have hi1 : (0 : Int) ≤ (s.1 : Int) ∧ (s.1 : Int) ≤ (l.length : Int) := by omega
  have hwr : IntKind.i64.wrap ((s.1 : Int) + (k : Int)) = (s.1 : Int) + (k : Int) := by rw [IntKind.wrap_i64]; omega
  obtain ⟨at', err⟩ := s
  simp only at *
  have HRD := Lib.hid hrd
  clear hT h hrd o2
  by_cases h0 : err = 0
  · subst h0
    by_cases he : e = 0
    · subst he
      have HR := Lib.hid (HRD.out.trans (show _ = (Cd.unzig n, (at' + k, 0)) by rw [if_neg (by simp), if_neg (by simp)]))
      rw [HR.out]
      clear HRD
      generalize Cd.unzig n = v at *
      go_enter Try.func56, Try.ntmps56
      go_wp2_with fail
      go_region_with (go_at_call 58; (try rw [hx]); (with_reducible refine (HT.out _).mono ?_); rintro e w1 ⟨rfl, rfl⟩)
      all_goals go_wp2_with fail
      all_goals go_ret
      all_goals exact ⟨rfl, Ob.Obj.set (show Tr w.drew t l (at', 0) from H.out) 1 (.int .i64 ((at' : Int) + (k : Int))), (Sq.Kept.drew _ _).trans (HK.out _ _ _)⟩
    · have HR := Lib.hid (HRD.out.trans (show _ = (0, (at', e)) by rw [if_neg (by simp), if_pos he]))
      have heb : (((e : Nat) : Int) != 0) = true := by simp; omega
      rw [HR.out]
      clear HRD he
      go_enter Try.func56, Try.ntmps56
      go_wp2_with fail
      go_region_with (go_at_call 58; (try rw [hx]); (with_reducible refine (HT.out _).mono ?_); rintro e w1 ⟨rfl, rfl⟩)
      all_goals go_wp2_with fail
      all_goals go_ret
      all_goals exact ⟨rfl, Ob.Obj.set (show Tr w.drew t l (at', 0) from H.out) 2 (.int .i64 (e : Int)), (Sq.Kept.drew _ _).trans (HK.out _ _ _)⟩
  · have HR := Lib.hid (HRD.out.trans (show _ = (0, (at', err)) by rw [if_pos h0]))
    have heb : (((err : Nat) : Int) != 0) = true := by simp; omega
    rw [HR.out]
    clear HRD h0
    go_enter Try.func56, Try.ntmps56
    go_wp2_with fail
    go_ret
    exact ⟨rfl, H.out, Sq.Kept.refl _ _⟩
end Co
end Go.Proofs.Ytfkfckohajpcfaa

/-
  The document's reader: a function.
-/
namespace Go.Proofs.Ytfkfckohajpcfaa
open Go.RowKit
set_option linter.unusedSimpArgs false
set_option linter.unusedVariables false
namespace Co
variable {ty : TypeId} {w : World} {t bb : Nat} {kind name : Int} {L : List Op2} {v : Value} {rs rs2 : List Value} {W W2 : World}
theorem DF.other (h : DF ty w t bb kind name L v rs W) {b : Nat} (h0 : w.heap.size < b) (h1 : b ≠ t) (h2 : b ≠ bb) (hv : v.ownBlock ≠ some b) (j : Nat) (u : Value) : DF ty w t bb kind name L v rs (W.setCell ⟨b, j, none⟩ u) :=
  ⟨h.box.other (p := ⟨b, j, none⟩) h2.symm _, Ob.row_other h.row (p := ⟨b, j, none⟩) hv _, Ob.Obj.other h.tk (p := ⟨b, j, none⟩) h1.symm _, Ob.Obj.other h.res (p := ⟨b, j, none⟩) (by show w.heap.size ≠ b; omega) _, h.kp.trans (Sq.Kept.setCell _ (p := ⟨b, j, none⟩) _ (fun hn => by have : b < w.heap.size := hn.1; omega)), h.lt, h.tl, h.ne⟩
theorem DF.set0 (h : DF ty w t bb kind name L v rs W) (k : Int) : DF ty w t bb k name L v rs (W.setCell ⟨bb, 0, none⟩ (.int .i64 k)) := by
  have h1 := h.lt
  have h2 := h.tl
  have hn := h.box.not_row (show 52 ≠ 59 by decide) h.row
  exact ⟨by have := h.box.set 0 (.int .i64 k); simpa using this, Ob.row_other h.row (p := ⟨bb, 0, none⟩) hn _, Ob.Obj.other h.tk (p := ⟨bb, 0, none⟩) (by show t ≠ bb; omega) _, Ob.Obj.other h.res (p := ⟨bb, 0, none⟩) (by show w.heap.size ≠ bb; omega) _, h.kp.trans (Sq.Kept.setCell _ (p := ⟨bb, 0, none⟩) _ (fun hn => by have : bb < w.heap.size := hn.1; omega)), h1, h2, h.ne⟩
theorem DF.set1 (h : DF ty w t bb kind name L v rs W) (k : Int) : DF ty w t bb kind k L v rs (W.setCell ⟨bb, 1, none⟩ (.int .i64 k)) := by
  have h1 := h.lt
  have h2 := h.tl
  have hn := h.box.not_row (show 52 ≠ 59 by decide) h.row
  exact ⟨by have := h.box.set 1 (.int .i64 k); simpa using this, Ob.row_other h.row (p := ⟨bb, 1, none⟩) hn _, Ob.Obj.other h.tk (p := ⟨bb, 1, none⟩) (by show t ≠ bb; omega) _, Ob.Obj.other h.res (p := ⟨bb, 1, none⟩) (by show w.heap.size ≠ bb; omega) _, h.kp.trans (Sq.Kept.setCell _ (p := ⟨bb, 1, none⟩) _ (fun hn => by have : bb < w.heap.size := hn.1; omega)), h1, h2, h.ne⟩
def rsT (l : Dat) (z : RS) : List Value := [.string (Cd.bs l), .int .i64 (z.1 : Int), .int .i64 (z.2 : Int)]

set_option maxRecDepth 100000 in
set_option maxHeartbeats 16000000 in
theorem functionR_any (t : Nat) (l : Dat) (s : RS) (w : World) (h : Tr w t l s) (hs : s.1 ≤ l.length) (hl : l.length ≤ 2097152) :
    Calls Try.prog 41 #[.pointer (some ⟨t, 0, none⟩)] w (FnOut 75 w t (rdFn l s).1 (rsT l (rdFn l s).2)) := by
  obtain ⟨i0, hi0, hz0, hz1, hz2⟩ := info_parts info_Op13
  have ht : t < w.heap.size := Ob.Obj.lt h
  have hrd : rdFn l s = (⟨((fK l s).1 : Int), ((fN l s).1 : Int), (fO l s).1⟩, (fO l s).2) := rfl
  have l1 : (fK l s).2.1 ≤ l.length := (rdU_rd 1099511627776 (by decide)).le l s hs
  have l2 : (fN l s).2.1 ≤ l.length := (rdU_rd 1099511627776 (by decide)).le l _ l1
  have l3 : (fL l s).2.1 ≤ l.length := (rdU_rd 128 (by decide)).le l _ l2
  have m3 : (fL l s).1 ≤ 128 := rdU_le l 128 _
  have HU1 := Lib.hid (fun W (h : Tr W t l s) => show Calls Try.prog 40 #[.pointer (some ⟨t, 0, none⟩), .int .u64 1099511627776] W fun r w' => r = .returned (.int .i64 ((fK l s).1 : Int)) ∧ Tr w' t l (fK l s).2 ∧ Sq.Kept (fun k => k ≠ t) W w' from uintR_any t l s 1099511627776 1099511627776 rfl W h hs hl (by decide))
  have HU2 := Lib.hid (fun W (h : Tr W t l (fK l s).2) => show Calls Try.prog 40 #[.pointer (some ⟨t, 0, none⟩), .int .u64 1099511627776] W fun r w' => r = .returned (.int .i64 ((fN l s).1 : Int)) ∧ Tr w' t l (fN l s).2 ∧ Sq.Kept (fun k => k ≠ t) W w' from uintR_any t l (fK l s).2 1099511627776 1099511627776 rfl W h l1 hl (by decide))
  have HU3 := Lib.hid (fun W (h : Tr W t l (fN l s).2) => show Calls Try.prog 40 #[.pointer (some ⟨t, 0, none⟩), .int .u64 128] W fun r w' => r = .returned (.int .i64 ((fL l s).1 : Int)) ∧ Tr w' t l (fL l s).2 ∧ Sq.Kept (fun k => k ≠ t) W w' from uintR_any t l (fN l s).2 128 128 rfl W h l2 hl (by decide))
  have hOA : fO l s = goS rdOp l (fL l s).1 [] (fL l s).2 := rfl
  generalize fL l s = y3 at *
  generalize fN l s = y2 at *
  generalize fK l s = y1 at *
  obtain ⟨kind, s1⟩ := y1
  obtain ⟨name, s2⟩ := y2
  obtain ⟨K, s3⟩ := y3
  simp only at l1 l2 l3 m3 HU1 HU2 HU3 hOA hrd
  have hne : w.heap.size ≠ t := by omega
  have oR := Ob.Obj.new w 52 [.int .i64 0, .int .i64 0, .slice none 0 0]
  have HRD := Lib.hid hrd
  have HOA := Lib.hid hOA
  obtain ⟨wa, hwa⟩ : ∃ wa, w.alloc (.cells #[.int .i64 0, .int .i64 0, .slice none 0 0] 52) = wa := ⟨_, rfl⟩
  have hsa : wa.heap.size = w.heap.size + 1 := by rw [← hwa]; simp
  have oF := Ob.Obj.new wa 52 [.int .i64 0, .int .i64 0, .slice none 0 0]
  rw [hsa] at oF
  have HS0 := Lib.hid (show DF 75 w t (w.heap.size + 1) 0 0 [] (.slice none 0 0) (rsT l s) (wa.alloc (.cells #[.int .i64 0, .int .i64 0, .slice none 0 0] 52)) from
    ⟨oF, World.ownsRow_nil _ _ _ _, by rw [← hwa]; exact Ob.Obj.alloc (Ob.Obj.alloc h _) _, by rw [← hwa]; rw [hwa]; exact (by rw [← hwa]; exact oR : Ob.Obj wa w.heap.size 52 [.int .i64 0, .int .i64 0, .slice none 0 0]).alloc _, ((by rw [← hwa]; exact Sq.Kept.alloc _ _ _ : Sq.Kept (KT w t) w wa)).trans (Sq.Kept.alloc _ _ _), by omega, ht, by decide⟩)
  have HT0 : Hid (Tr (wa.alloc (.cells #[.int .i64 0, .int .i64 0, .slice none 0 0] 52)) t l s) := HS0.out.tk
  rw [← hwa] at HS0 HT0
  clear h hrd hOA hwa hsa oF oR
  have tk1 := trivial
  go_enter Try.func41, Try.ntmps41
  go_wp2_with (first
    | (go_at_call 40; have _t := tk1; clear _t tk1; (with_reducible refine (HU1.out _ HT0.out).mono ?_); rintro e w1 ⟨rfl, hT1, hk1⟩; have HS1 := Lib.hid (HS0.out.call hk1 hT1); have tk2 := trivial)
    | (go_at_call 40; have _t := tk2; clear _t tk2; (with_reducible refine (HU2.out _ hT1).mono ?_); rintro e w2 ⟨rfl, hT2, hk2⟩; have HS2 := Lib.hid (HS1.out.call hk2 hT2); obtain ⟨b0, b1, b2, f0, f1, f2, bz⟩ := HS2.out.cells; have HS3 := Lib.hid ((HS2.out.set0 (kind : Int)).set1 (name : Int)); have HT3 : Hid (Tr _ t l s2) := HS3.out.tk; have tk3 := trivial)
    | (go_at_call 40; have _t := tk3; clear _t tk3; (with_reducible refine (HU3.out _ HT3.out).mono ?_); rintro e w3 ⟨rfl, hT4, hk4⟩; have HS4 := Lib.hid (HS3.out.call hk4 hT4)))
  clear hT1 hk1 hT2 hk2 hT4 hk4 HS0 HS1 HS2 HS3 HT0 HT3 b0 b1 b2 f0 f1 f2 bz HU1 HU2 HU3
  go_loopw [7] (fun i wr => ∃ (k : Nat) (L : List Op2) (s' : RS) (v : Value), k ≤ K ∧ i = .int .i64 (k : Int) ∧ DF 75 w t (w.heap.size + 1) (kind : Int) (name : Int) L v (rsT l s') wr ∧ L.length ≤ k ∧ s'.1 ≤ l.length ∧ Hid (goS rdOp l K [] s3 = goS rdOp l (K - k) L s')) (fun i _ => K - (intOf i).toNat)
  case atStart => exact ⟨0, [], s3, _, Nat.zero_le _, rfl, HS4.out, Nat.le_refl _, l3, rfl⟩
  case round =>
    clear HS4
    obtain ⟨k, L, s', v, hk, rfl, hS, hLk, hsl, hgo⟩ := hrel
    obtain ⟨wo, rfl⟩ : ∃ wo : World, wo = wr := ⟨_, rfl⟩
    obtain ⟨ao, cap, rfl, hg0⟩ := Sq.row_cases hS.row
    have t2 := hS.tk.cell 2
    have tz := hS.tk.lt
    unfold rsT at t2
    simp at t2
    by_cases hgoes : k < K ∧ s'.2 = 0
    · obtain ⟨hlt, hsb⟩ := hgoes
      have hstep : goS rdOp l K [] s3 = goS rdOp l (K - (k + 1)) (L ++ [(rdOp l s').1]) (rdOp l s').2 := by
        rw [hgo.out, show K - k = (K - (k + 1)) + 1 by omega, goS, if_neg (by rw [hsb]; simp)]
      have e1 := rdOp_in l s' hsl
      have hrdo : rdOp l s' = if operandB ((rdU l 1099511627776 s').1 : Int) = true then (⟨((rdU l 1099511627776 s').1 : Int), (rdI l (rdU l 1099511627776 s').2).1⟩, (rdI l (rdU l 1099511627776 s').2).2) else (⟨((rdU l 1099511627776 s').1 : Int), 0⟩, (rdU l 1099511627776 s').2) := rfl
      have HX := Lib.hid (fun W (h : Tr W t l s') => uintR_any t l s' 1099511627776 1099511627776 rfl W h hsl hl (by decide))
      have e2 : (rdU l 1099511627776 s').2.1 ≤ l.length := (rdU_rd 1099511627776 (by decide)).le l s' hsl
      generalize rdU l 1099511627776 s' = yc at *
      obtain ⟨c, sa⟩ := yc
      simp only at hrdo HX e2
      have HI := Lib.hid (fun W (h : Tr W t l sa) => intR_any t l sa W h e2 hl)
      have hrdi : sa.2 ≠ 0 → rdI l sa = (0, sa) := fun h => by unfold rdI; rw [if_pos h]
      have HO := Lib.hid (fun W => operandR_any (c : Int) W)
      have hi1 : (k : Int) < (K : Int) := by omega
      have hsi : ((s'.2 : Nat) : Int) = 0 := by omega
      rw [hsi] at t2
      have HS := Lib.hid hS
      have HT : Hid (Tr wo t l s') := hS.tk
      have HST0 := Lib.hid hstep
      clear hgo hS hstep hsb hsi
      cases hop : operandB (c : Int) with
      | false =>
        rw [hop] at HO hrdo
        rw [if_neg (by decide)] at hrdo
        rw [hrdo] at HST0 e1
        have HST := HST0
        clear hrdo hop hrdi HI
        go_wp2_with (first
          | (go_at_call 40; (with_reducible refine (HX.out _ HT.out).mono ?_); rintro e w5 ⟨rfl, hT5, hk5⟩; have HS5 := Lib.hid (HS.out.call hk5 hT5); have HS6 := Lib.hid (HS5.out.below ((Below.refl w5.heap.size w5).alloc (Nat.le_refl _) (.cells #[.int .i64 (c : Int), .int .i64 0] 59))); have oX := Ob.Obj.new w5 59 [.int .i64 (c : Int), .int .i64 0]; have hne5 : w5.heap.size ≠ t := (by have := HS5.out.tl; have := HS5.out.kp.size; omega); have hnb5 : w5.heap.size ≠ w.heap.size + 1 := (by have := HS5.out.box.lt; omega); have hnv5 : (Value.slice ao L.length cap).ownBlock ≠ some w5.heap.size := (fun e => by have := (Ob.row_lt HS5.out.row e).2; omega); have hz5 : w.heap.size < w5.heap.size := (by have := HS5.out.kp.size; have := HS5.out.box.lt; omega); have x0 := oX.cell 0; have x1 := oX.cell 1; have tt := HS6.out.tk.cell 2; unfold rsT at tt; simp at x0 x1 tt; obtain ⟨_, _, y2, _, _, _, yz⟩ := HS6.out.cells; have htz := HS5.out.tk.lt)
          | (go_at_call 12; (with_reducible refine (HO.out _).mono ?_); rintro e w6 ⟨rfl, rfl⟩)
          | (at_builtin; refine wpList_append_lies _ rfl _ _ 50 rfl w.heap.size 59 i0 _ 2 16 Try.underlying50 hi0 hz0 hz1 hz2 rfl (by decide) (.slice ao L.length cap) L.length _ rfl (HS6.out.row.alloc _) ⟨w5.heap.size + 1, 0, none⟩ 1 1 [.int .i64 (c : Int), .int .i64 0] rfl rfl (World.news_of_block (cs := #[.int .i64 (c : Int), .int .i64 0]) (t := 59) (fr := (0, 0)) (by simpa using heap_alloc_new (w5.alloc (.cells #[.int .i64 (c : Int), .int .i64 0] 59)) (.cells #[.int .i64 (c : Int), .int .i64 0] 59))) (by simp [Value.oneCell']) (by omega) (by unfold maxLen; omega) (by omega) (by have := HS6.out.kp.size; simp at this ⊢; omega) (w5.heap.size + 1 + 1) (by simp) ?_; intro g cap9 w9 hown hgrow hat hlt9; have HS9 := Lib.hid (HS6.out.below ((Below.refl _ (w5.alloc (.cells #[.int .i64 (c : Int), .int .i64 0] 59))).alloc (Nat.le_refl _) (.cells #[.int .i64 (c : Int), .int .i64 0] 59))); have hob := HS9.out.box.grown hgrow (HS9.out.box.not_row (by decide) HS9.out.row); have c9 := hob.cell 2; have f9 := hob.frozen 2; simp at c9; have HS10 := Lib.hid (HS9.out.add ⟨(c : Int), 0⟩ hown hgrow); clear hown hgrow hob))
        go_roundw
        case rel => exact ⟨k + 1, L ++ [⟨(c : Int), 0⟩], sa, _, by omega, by go_num, HS10.out, by rw [List.length_append, List.length_singleton]; omega, e1, HST⟩
        case measure => simp [intOf]; omega
      | true =>
        rw [hop] at HO hrdo
        rw [if_pos rfl] at hrdo
        by_cases hsa : sa.2 = 0
        · have hsai : ((sa.2 : Nat) : Int) = 0 := by omega
          rw [hrdo] at HST0 e1
          have HST := HST0
          clear hrdo hop hrdi hsa
          generalize rdI l sa = yi at *
          obtain ⟨a, sb⟩ := yi
          simp only at HI e1
          go_wp2_with (first
            | (go_at_call 40; (with_reducible refine (HX.out _ HT.out).mono ?_); rintro e w5 ⟨rfl, hT5, hk5⟩; have HS5 := Lib.hid (HS.out.call hk5 hT5); have HS6 := Lib.hid (HS5.out.below ((Below.refl w5.heap.size w5).alloc (Nat.le_refl _) (.cells #[.int .i64 (c : Int), .int .i64 0] 59))); have oX := Ob.Obj.new w5 59 [.int .i64 (c : Int), .int .i64 0]; have hne5 : w5.heap.size ≠ t := (by have := HS5.out.tl; have := HS5.out.kp.size; omega); have hnb5 : w5.heap.size ≠ w.heap.size + 1 := (by have := HS5.out.box.lt; omega); have hnv5 : (Value.slice ao L.length cap).ownBlock ≠ some w5.heap.size := (fun e => by have := (Ob.row_lt HS5.out.row e).2; omega); have hz5 : w.heap.size < w5.heap.size := (by have := HS5.out.kp.size; have := HS5.out.box.lt; omega); have x0 := oX.cell 0; have x1 := oX.cell 1; have tt := HS6.out.tk.cell 2; unfold rsT at tt; simp at x0 x1 tt; rw [hsai] at tt; have HT6 : Hid (Tr _ t l sa) := HS6.out.tk; obtain ⟨_, _, y2, _, _, _, yz⟩ := HS6.out.cells; have htz := HS5.out.tk.lt)
            | (go_at_call 12; (with_reducible refine (HO.out _).mono ?_); rintro e w6 ⟨rfl, rfl⟩)
            | (go_at_call 56; (with_reducible refine (HI.out _ HT6.out).mono ?_); rintro e w7 ⟨rfl, hT7, hk7⟩; have HS7 := Lib.hid (HS6.out.call hk7 hT7); have oX7 := oX.kept hk7 hne5; have x3 := oX7.cell 0; have x4 := oX7.cell 1; have x5 := oX7.frozen 1; simp at x3 x4; have hxz := oX7.lt; have HS8 := Lib.hid (HS7.out.other (b := w5.heap.size) (by omega) hne5 hnb5 hnv5 1 (.int .i64 a)); obtain ⟨_, _, u2, _, _, _, uz⟩ := HS7.out.cells; have hz7 := HS7.out.kp.size)
            | (at_builtin; refine wpList_append_lies _ rfl _ _ 50 rfl w.heap.size 59 i0 _ 2 16 Try.underlying50 hi0 hz0 hz1 hz2 rfl (by decide) (.slice ao L.length cap) L.length _ rfl (HS8.out.row.alloc _) ⟨w7.heap.size, 0, none⟩ 1 1 [.int .i64 (c : Int), .int .i64 a] rfl rfl (World.news_of_block (cs := #[.int .i64 (c : Int), .int .i64 a]) (t := 59) (fr := (0, 0)) (by simpa using heap_alloc_new (w7.setCell ⟨w5.heap.size, 1, none⟩ (.int .i64 a)) (.cells #[.int .i64 (c : Int), .int .i64 a] 59))) (by simp [Value.oneCell']) (by omega) (by unfold maxLen; omega) (by omega) (by have := HS8.out.kp.size; simp at this ⊢; omega) (w7.heap.size + 1) (by simp) ?_; intro g cap9 w9 hown hgrow hat hlt9; have HS9 := Lib.hid (HS8.out.below ((Below.refl _ (w7.setCell ⟨w5.heap.size, 1, none⟩ (.int .i64 a))).alloc (Nat.le_refl _) (.cells #[.int .i64 (c : Int), .int .i64 a] 59))); have hob := HS9.out.box.grown hgrow (HS9.out.box.not_row (by decide) HS9.out.row); have c9 := hob.cell 2; have f9 := hob.frozen 2; simp at c9; have HS10 := Lib.hid (HS9.out.add ⟨(c : Int), a⟩ hown hgrow); clear hown hgrow hob))
          go_roundw
          case rel => exact ⟨k + 1, L ++ [⟨(c : Int), a⟩], sb, _, by omega, by go_num, HS10.out, by rw [List.length_append, List.length_singleton]; omega, e1, HST⟩
          case measure => simp [intOf]; omega
        · have hsai : (((sa.2 : Nat) : Int) == 0) = false := by rw [beq_eq_false_iff_ne]; omega
          rw [hrdi hsa] at hrdo
          rw [hrdo] at HST0 e1
          have HST := HST0
          clear hrdo hop hrdi hsa HI
          go_wp2_with (first
            | (go_at_call 40; (with_reducible refine (HX.out _ HT.out).mono ?_); rintro e w5 ⟨rfl, hT5, hk5⟩; have HS5 := Lib.hid (HS.out.call hk5 hT5); have HS6 := Lib.hid (HS5.out.below ((Below.refl w5.heap.size w5).alloc (Nat.le_refl _) (.cells #[.int .i64 (c : Int), .int .i64 0] 59))); have oX := Ob.Obj.new w5 59 [.int .i64 (c : Int), .int .i64 0]; have hne5 : w5.heap.size ≠ t := (by have := HS5.out.tl; have := HS5.out.kp.size; omega); have hnb5 : w5.heap.size ≠ w.heap.size + 1 := (by have := HS5.out.box.lt; omega); have hnv5 : (Value.slice ao L.length cap).ownBlock ≠ some w5.heap.size := (fun e => by have := (Ob.row_lt HS5.out.row e).2; omega); have hz5 : w.heap.size < w5.heap.size := (by have := HS5.out.kp.size; have := HS5.out.box.lt; omega); have x0 := oX.cell 0; have x1 := oX.cell 1; have tt := HS6.out.tk.cell 2; unfold rsT at tt; simp at x0 x1 tt; obtain ⟨_, _, y2, _, _, _, yz⟩ := HS6.out.cells; have htz := HS5.out.tk.lt)
            | (go_at_call 12; (with_reducible refine (HO.out _).mono ?_); rintro e w6 ⟨rfl, rfl⟩)
            | (at_builtin; refine wpList_append_lies _ rfl _ _ 50 rfl w.heap.size 59 i0 _ 2 16 Try.underlying50 hi0 hz0 hz1 hz2 rfl (by decide) (.slice ao L.length cap) L.length _ rfl (HS6.out.row.alloc _) ⟨w5.heap.size + 1, 0, none⟩ 1 1 [.int .i64 (c : Int), .int .i64 0] rfl rfl (World.news_of_block (cs := #[.int .i64 (c : Int), .int .i64 0]) (t := 59) (fr := (0, 0)) (by simpa using heap_alloc_new (w5.alloc (.cells #[.int .i64 (c : Int), .int .i64 0] 59)) (.cells #[.int .i64 (c : Int), .int .i64 0] 59))) (by simp [Value.oneCell']) (by omega) (by unfold maxLen; omega) (by omega) (by have := HS6.out.kp.size; simp at this ⊢; omega) (w5.heap.size + 1 + 1) (by simp) ?_; intro g cap9 w9 hown hgrow hat hlt9; have HS9 := Lib.hid (HS6.out.below ((Below.refl _ (w5.alloc (.cells #[.int .i64 (c : Int), .int .i64 0] 59))).alloc (Nat.le_refl _) (.cells #[.int .i64 (c : Int), .int .i64 0] 59))); have hob := HS9.out.box.grown hgrow (HS9.out.box.not_row (by decide) HS9.out.row); have c9 := hob.cell 2; have f9 := hob.frozen 2; simp at c9; have HS10 := Lib.hid (HS9.out.add ⟨(c : Int), 0⟩ hown hgrow); clear hown hgrow hob))
          go_roundw
          case rel => exact ⟨k + 1, L ++ [⟨(c : Int), 0⟩], sa, _, by omega, by go_num, HS10.out, by rw [List.length_append, List.length_singleton]; omega, e1, HST⟩
          case measure => simp [intOf]; omega
    · have hex : goS rdOp l K [] s3 = (L, s') := by
        rw [hgo.out]
        by_cases hlt : k < K
        · rw [goS_stuck l _ L s' (fun hz => hgoes ⟨hlt, hz⟩)]
        · rw [show K - k = 0 by omega, goS]
      have HE := Lib.hid (show rdFn l s = (⟨(kind : Int), (name : Int), L⟩, s') by rw [HRD.out, HOA.out, hex])
      have HS := Lib.hid hS
      obtain ⟨b0, b1, b2, f0, f1, f2, z⟩ := hS.cells
      obtain ⟨r0, r1, r2, g0, g1, g2, rz⟩ := hS.rcells
      clear hgo hex hS
      by_cases hlt : k < K
      · have hi1 : (k : Int) < (K : Int) := by omega
        have hsb : (((s'.2 : Nat) : Int) == 0) = false := by
          have : s'.2 ≠ 0 := fun hz => hgoes ⟨hlt, hz⟩
          rw [beq_eq_false_iff_ne]; omega
        clear hgoes
        go_wp2_with fail
        refine bodyPost_ret (v := .agg #[.int .i64 (kind : Int), .int .i64 (name : Int), .slice ao L.length cap]) (by simp [results, Try.results41, go_sem, r0, r1, r2, rz]) rfl ?_
        rw [HE.out]
        exact HS.out.out _ _ _ _ rfl
      · have hi1 : ¬ (k : Int) < (K : Int) := by omega
        clear hgoes
        go_wp2_with fail
        refine bodyPost_ret (v := .agg #[.int .i64 (kind : Int), .int .i64 (name : Int), .slice ao L.length cap]) (by simp [results, Try.results41, go_sem, r0, r1, r2, rz]) rfl ?_
        rw [HE.out]
        exact HS.out.out _ _ _ _ rfl
end Co
end Go.Proofs.Ytfkfckohajpcfaa

/-
  The document's reader: how an activity is done.
-/
namespace Go.Proofs.Ytfkfckohajpcfaa
open Go.RowKit
set_option linter.unusedSimpArgs false
set_option linter.unusedVariables false
theorem info_i6413 : (Try.prog.info? 2).map (fun i => (i.zero, i.size, i.bytes)) = some (some (.int .i64 0), 1, 8) := by kernel_rfl
namespace Co
/-- where the reader stands behind so many numbers; the next one -/
def zq (l : Dat) (s : RS) : Nat → RS
  | 0 => s
  | q + 1 => (rdU l 1099511627776 (zq l s q)).2
def vq (l : Dat) (s : RS) (q : Nat) : Nat := (rdU l 1099511627776 (zq l s q)).1
def vcs (l : Dat) (s : RS) (q : Nat) : List Value := (List.range q).map fun j => .int .i64 (vq l s j : Int)
theorem vcs_len (l : Dat) (s : RS) (q : Nat) : (vcs l s q).length = q := by simp [vcs]
theorem vcs_snoc (l : Dat) (s : RS) (q : Nat) : vcs l s (q + 1) = vcs l s q ++ [.int .i64 (vq l s q : Int)] := by simp [vcs, List.range_succ]
theorem zq_le (l : Dat) (s : RS) (hs : s.1 ≤ l.length) : ∀ q, (zq l s q).1 ≤ l.length
  | 0 => hs
  | q + 1 => rdU_in l _ (zq_le l s hs q)
theorem o0_zq (l : Dat) (s : RS) : o0 l s = rdU l 1099511627776 (zq l s 0) := by rw [o0_eq]; rfl
theorem o1_zq (l : Dat) (s : RS) : o1 l s = rdU l 1099511627776 (zq l s 1) := by rw [o1_eq, o0_zq]; rfl
theorem o2_zq (l : Dat) (s : RS) : o2 l s = rdU l 1099511627776 (zq l s 2) := by rw [o2_eq, o1_zq]; rfl
theorem o3_zq (l : Dat) (s : RS) : o3 l s = rdU l 1099511627776 (zq l s 3) := by rw [o3_eq, o2_zq]; rfl
theorem o4_zq (l : Dat) (s : RS) : o4 l s = rdU l 1099511627776 (zq l s 4) := by rw [o4_eq, o3_zq]; rfl
theorem o5_zq (l : Dat) (s : RS) : o5 l s = rdU l 1099511627776 (zq l s 5) := by rw [o5_eq, o4_zq]; rfl
theorem o6_zq (l : Dat) (s : RS) : o6 l s = rdU l 1099511627776 (zq l s 6) := by rw [o6_eq, o5_zq]; rfl
theorem o7_zq (l : Dat) (s : RS) : o7 l s = rdU l 1099511627776 (zq l s 7) := by rw [o7_eq, o6_zq]; rfl
theorem o8_zq (l : Dat) (s : RS) : o8 l s = rdU l 1099511627776 (zq l s 8) := by rw [o8_eq, o7_zq]; rfl
theorem o9_zq (l : Dat) (s : RS) : o9 l s = rdU l 1099511627776 (zq l s 9) := by rw [o9_eq, o8_zq]; rfl
/-- amid the reading of options: the numbers so far -/
structure DG (w : World) (t : Nat) (l : Dat) (z : RS) (q : Nat) (V : List Value) (v : Value) (W : World) : Prop where
  row : W.ownsRow w.heap.size 2 1 v q V
  tk : Tr W t l z
  res : Ob.Obj W w.heap.size 54 [.int .i64 0, .int .i64 0, .int .i64 0, .int .i64 0, .int .i64 0, .int .i64 0, .int .i64 0, .int .i64 0, .int .i64 0, .int .i64 0, .int .i64 0]
  kp : Sq.Kept (KT w t) w W
theorem DG.call {w : World} {t : Nat} {l : Dat} {z z2 : RS} {q : Nat} {V : List Value} {v : Value} {W W2 : World} (h : DG w t l z q V v W) (hne : w.heap.size ≠ t) (hk : Sq.Kept (fun k => k ≠ t) W W2) (ht : Tr W2 t l z2) : DG w t l z2 q V v W2 :=
  ⟨Sq.row_kept h.row hk (fun k hk2 e => by subst e; exact Ob.Obj.not_row h.tk (show 75 ≠ 2 by decide) h.row hk2), ht, h.res.kept hk hne, h.kp.trans (hk.less (fun k hk _ => hk.2))⟩
theorem DG.below {w : World} {t : Nat} {l : Dat} {z : RS} {q : Nat} {V : List Value} {v : Value} {W W2 : World} (h : DG w t l z q V v W) (hb : Below W.heap.size W W2) : DG w t l z q V v W2 :=
  ⟨own_below h.row hb, Ob.Obj.below h.tk hb, h.res.below hb, h.kp.trans (Sq.Kept.of_below hb)⟩
theorem DG.add {w : World} {t : Nat} {l : Dat} {z : RS} {q : Nat} {V V2 : List Value} {v v2 x : Value} {W W2 : World} (h : DG w t l z q V v W) (hv : V2 = V ++ [x]) (hown : W2.ownsRow w.heap.size 2 1 v2 (q + 1) (V ++ [x])) (hg : W.grownBy W2 v.ownBlock) : DG w t l z (q + 1) V2 v2 W2 := by
  subst hv
  refine ⟨hown, Ob.Obj.grown h.tk hg (Ob.Obj.not_row h.tk (by decide) h.row), h.res.grown hg (h.res.not_row (by decide) h.row), h.kp.trans (Sq.Kept.grown hg (fun r hr hn => ?_))⟩
  have h1 := (Ob.row_lt h.row hr).1
  have h2 : r < w.heap.size := hn.1
  omega

theorem DG.out {w : World} {t : Nat} {l : Dat} {z : RS} {q : Nat} {V : List Value} {v : Value} {W : World} (h : DG w t l z q V v W) (hne : w.heap.size ≠ t) (o : Opt) (r : Ending) (hr : r = .returned (optV o)) (v0 v1 v2 v3 v4 v5 v6 v7 v8 v9 v10 : Value) :
    OptOut 75 w t o (rsT l z) r (World.drew (((((((((((W.setCell ⟨w.heap.size, 0, none⟩ v0).setCell ⟨w.heap.size, 1, none⟩ v1).setCell ⟨w.heap.size, 2, none⟩ v2).setCell ⟨w.heap.size, 3, none⟩ v3).setCell ⟨w.heap.size, 4, none⟩ v4).setCell ⟨w.heap.size, 5, none⟩ v5).setCell ⟨w.heap.size, 6, none⟩ v6).setCell ⟨w.heap.size, 7, none⟩ v7).setCell ⟨w.heap.size, 8, none⟩ v8).setCell ⟨w.heap.size, 9, none⟩ v9).setCell ⟨w.heap.size, 10, none⟩ v10)) := by
  have ho : ∀ {W : World} (j : Nat) (v : Value), Ob.Obj W t 75 (rsT l z) → Ob.Obj (W.setCell ⟨w.heap.size, j, none⟩ v) t 75 (rsT l z) := fun j v h => Ob.Obj.other h (p := ⟨w.heap.size, j, none⟩) hne.symm v
  have hO := ho 10 v10 (ho 9 v9 (ho 8 v8 (ho 7 v7 (ho 6 v6 (ho 5 v5 (ho 4 v4 (ho 3 v3 (ho 2 v2 (ho 1 v1 (ho 0 v0 h.tk))))))))))
  have hK := (kt_set (kt_set (kt_set (kt_set (kt_set (kt_set (kt_set (kt_set (kt_set (kt_set (kt_set h.kp 0 v0) 1 v1) 2 v2) 3 v3) 4 v4) 5 v5) 6 v6) 7 v7) 8 v8) 9 v9) 10 v10)
  have hd : ∀ {W : World}, Ob.Obj W t 75 (rsT l z) → Ob.Obj (World.drew W) t 75 (rsT l z) := fun h => h
  exact ⟨hr, hd hO, (hK.trans (Sq.Kept.drew _ _)).less (fun k hk hk2 => ⟨hk2, hk⟩)⟩

set_option maxRecDepth 100000 in
set_option maxHeartbeats 16000000 in
theorem optionsRd_any (t : Nat) (l : Dat) (s : RS) (w : World) (h : Tr w t l s) (hs : s.1 ≤ l.length) (hl : l.length ≤ 2097152) :
    Calls Try.prog 42 #[.pointer (some ⟨t, 0, none⟩)] w (OptOut 75 w t (rdOpt l s).1 (rsT l (rdOpt l s).2)) := by
  obtain ⟨i0, hi0, hz0, hz1, hz2⟩ := info_parts info_i6413
  have ht : t < w.heap.size := Ob.Obj.lt h
  have hne : w.heap.size ≠ t := by omega
  have HU := Lib.hid (fun q W (h : Tr W t l (zq l s q)) => show Calls Try.prog 40 #[.pointer (some ⟨t, 0, none⟩), .int .u64 1099511627776] W fun r w' => r = .returned (.int .i64 (vq l s q : Int)) ∧ Tr w' t l (zq l s (q + 1)) ∧ Sq.Kept (fun k => k ≠ t) W w' from uintR_any t l (zq l s q) 1099511627776 1099511627776 rfl W h (zq_le l s hs q) hl (by decide))
  have HI := Lib.hid (fun W (h : Tr W t l (zq l s 10)) => intR_any t l (zq l s 10) W h (zq_le l s hs 10) hl)
  have hz10 : (o9 l s).2 = zq l s 10 := by rw [o9_zq]; rfl
  have hrd : rdOpt l s = (⟨(vq l s 0 : Int), (vq l s 1 : Int), (vq l s 2 : Int), (vq l s 3 : Int), (vq l s 4 : Int), (vq l s 5 : Int), (vq l s 6 : Int), (vq l s 7 : Int), (vq l s 8 : Int), (vq l s 9 : Int), (rdI l (zq l s 10)).1⟩, (rdI l (zq l s 10)).2) := by
    simp only [rdOpt, oN_eq, hz10, o0_zq, o1_zq, o2_zq, o3_zq, o4_zq, o5_zq, o6_zq, o7_zq, o8_zq, o9_zq]
    rfl
  have HRD := Lib.hid hrd
  have oR := Ob.Obj.new w 54 [.int .i64 0, .int .i64 0, .int .i64 0, .int .i64 0, .int .i64 0, .int .i64 0, .int .i64 0, .int .i64 0, .int .i64 0, .int .i64 0, .int .i64 0]
  have HR := Lib.hid oR
  have hT0 : Tr (w.alloc (.cells #[.int .i64 0, .int .i64 0, .int .i64 0, .int .i64 0, .int .i64 0, .int .i64 0, .int .i64 0, .int .i64 0, .int .i64 0, .int .i64 0, .int .i64 0] 54)) t l (zq l s 0) := Ob.Obj.alloc h _
  have hk0 : Sq.Kept (KT w t) w (w.alloc (.cells #[.int .i64 0, .int .i64 0, .int .i64 0, .int .i64 0, .int .i64 0, .int .i64 0, .int .i64 0, .int .i64 0, .int .i64 0, .int .i64 0, .int .i64 0] 54)) := Sq.Kept.alloc _ _ _
  clear h hrd hz10 oR hs
  go_enter Try.func42, Try.ntmps42
  go_wp2_with fail
  go_loopw [3, 4] (fun b i wr => ∃ (q : Nat) (ao : Option Addr) (cap : Nat), q ≤ 10 ∧ i = .int .i64 (q : Int) ∧ b = .slice ao q cap ∧ DG w t l (zq l s q) q (vcs l s q) (.slice ao q cap) wr) (fun _ i _ => 10 - (intOf i).toNat)
  case atStart => exact ⟨0, none, 0, Nat.zero_le _, rfl, rfl, World.ownsRow_nil _ _ _ _, hT0, HR.out, hk0⟩
  case round =>
    clear hT0 hk0 HR
    obtain ⟨q, ao, cap, hq, rfl, rfl, hG⟩ := hrel
    obtain ⟨wo, rfl⟩ : ∃ wo : World, wo = wr := ⟨_, rfl⟩
    by_cases hlt : q < 10
    · have hi1 : (q : Int) < 10 := by omega
      have HUQ := Lib.hid (HU.out q)
      have hvs := vcs_snoc l s q
      generalize hv2 : vcs l s (q + 1) = V2 at *
      generalize vcs l s q = V1 at *
      generalize vq l s q = vv at *
      generalize hz2 : zq l s (q + 1) = z2 at *
      generalize zq l s q = z1 at *
      have HVS := Lib.hid hvs
      have HV2 := Lib.hid hv2
      have HZ2 := Lib.hid hz2
      clear hv2 hz2
      have HG := Lib.hid hG
      have HT : Hid (Tr wo t l z1) := hG.tk
      clear hvs hG
      go_wp2_with (first
        | (go_at_call 40; (with_reducible refine (HUQ.out _ HT.out).mono ?_); rintro e w5 ⟨rfl, hT5, hk5⟩; have HG5 := Lib.hid (HG.out.call hne hk5 hT5); have hz5 := HG5.out.kp.size)
        | (at_builtin; refine wpList_append_lies _ rfl _ _ 67 rfl w.heap.size 2 i0 _ 1 8 Try.underlying67 hi0 hz0 hz1 hz2 rfl (by decide) (.slice ao q cap) q V1 rfl (HG5.out.row.alloc _) ⟨w5.heap.size, 0, none⟩ 1 1 [.int .i64 (vv : Int)] rfl rfl (World.news_of_block (cs := #[.int .i64 (vv : Int)]) (t := 2) (fr := (0, 0)) (heap_alloc_new w5 _)) (by simp [Value.oneCell']) (by omega) (by unfold maxLen; omega) (by omega) (by simp; omega) (w5.heap.size + 1) (by simp) ?_; intro g cap9 w9 hown hgrow hat hlt9; have HG9 := Lib.hid ((HG5.out.below ((Below.refl w5.heap.size w5).alloc (Nat.le_refl _) (.cells #[.int .i64 (vv : Int)] 2))).add HVS.out hown hgrow); clear hown hgrow))
      go_roundw
      case rel => exact ⟨q + 1, _, _, by omega, by go_num, rfl, (by rw [HZ2.out, HV2.out]; exact HG9.out)⟩
      case measure => simp [intOf]; omega
    · obtain rfl : q = 10 := by omega
      have HG := Lib.hid hG
      have HT : Hid (Tr wo t l (zq l s 10)) := hG.tk
      obtain ⟨a', cap', b, hv, _, _, h3⟩ := Gn.row_at hG.row
      obtain ⟨hab, hbb, hbz, hc0⟩ := h3 (by decide)
      obtain ⟨rfl, rfl⟩ : ao = a' ∧ cap = cap' := by simpa using hv
      subst hab
      clear hv h3 hbz hc0 hG
      generalize rdI l (zq l s 10) = yi at *
      obtain ⟨a, zz⟩ := yi
      simp only at HI HRD
      go_wp2_with (go_at_call 56; (with_reducible refine (HI.out _ HT.out).mono ?_); rintro e w6 ⟨rfl, hT6, hk6⟩; have HG6 := Lib.hid (HG.out.call hne hk6 hT6))
      obtain ⟨_, _, b6, hv6, _, _, h6⟩ := Gn.row_at HG6.out.row
      obtain ⟨hab6, hbb6, hbz6, hc6⟩ := h6 (by decide)
      have hb6 : b6 = b := by
        have := hv6
        simp at this
        obtain ⟨h1, h2⟩ := this
        rw [← h1] at hab6
        simpa using hab6.symm
      subst hb6
      have hc := hc6
      clear hv6 h6 hab6 hc6
      have v0 : w6.cell? ⟨b6, 0, none⟩ = some (.int .i64 (vq l s 0 : Int)) := by rw [hc 0 (by decide)]; rfl
      have v1 : w6.cell? ⟨b6, 1, none⟩ = some (.int .i64 (vq l s 1 : Int)) := by rw [hc 1 (by decide)]; rfl
      have v2 : w6.cell? ⟨b6, 2, none⟩ = some (.int .i64 (vq l s 2 : Int)) := by rw [hc 2 (by decide)]; rfl
      have v3 : w6.cell? ⟨b6, 3, none⟩ = some (.int .i64 (vq l s 3 : Int)) := by rw [hc 3 (by decide)]; rfl
      have v4 : w6.cell? ⟨b6, 4, none⟩ = some (.int .i64 (vq l s 4 : Int)) := by rw [hc 4 (by decide)]; rfl
      have v5 : w6.cell? ⟨b6, 5, none⟩ = some (.int .i64 (vq l s 5 : Int)) := by rw [hc 5 (by decide)]; rfl
      have v6 : w6.cell? ⟨b6, 6, none⟩ = some (.int .i64 (vq l s 6 : Int)) := by rw [hc 6 (by decide)]; rfl
      have v7 : w6.cell? ⟨b6, 7, none⟩ = some (.int .i64 (vq l s 7 : Int)) := by rw [hc 7 (by decide)]; rfl
      have v8 : w6.cell? ⟨b6, 8, none⟩ = some (.int .i64 (vq l s 8 : Int)) := by rw [hc 8 (by decide)]; rfl
      have v9 : w6.cell? ⟨b6, 9, none⟩ = some (.int .i64 (vq l s 9 : Int)) := by rw [hc 9 (by decide)]; rfl
      have r0 := HG6.out.res.cell 0
      have g0 := HG6.out.res.frozen 0
      have r1 := HG6.out.res.cell 1
      have g1 := HG6.out.res.frozen 1
      have r2 := HG6.out.res.cell 2
      have g2 := HG6.out.res.frozen 2
      have r3 := HG6.out.res.cell 3
      have g3 := HG6.out.res.frozen 3
      have r4 := HG6.out.res.cell 4
      have g4 := HG6.out.res.frozen 4
      have r5 := HG6.out.res.cell 5
      have g5 := HG6.out.res.frozen 5
      have r6 := HG6.out.res.cell 6
      have g6 := HG6.out.res.frozen 6
      have r7 := HG6.out.res.cell 7
      have g7 := HG6.out.res.frozen 7
      have r8 := HG6.out.res.cell 8
      have g8 := HG6.out.res.frozen 8
      have r9 := HG6.out.res.cell 9
      have g9 := HG6.out.res.frozen 9
      have r10 := HG6.out.res.cell 10
      have g10 := HG6.out.res.frozen 10
      have rz := HG6.out.res.lt
      simp at r0 r1 r2 r3 r4 r5 r6 r7 r8 r9 r10
      clear hc
      go_still_tail 32, (by kernel_rfl)
      change wpList _ _ _ _ _ (World.drew _)
      go_wp2_with fail
      refine bodyPost_ret (v := .agg #[.int .i64 (vq l s 0 : Int), .int .i64 (vq l s 1 : Int), .int .i64 (vq l s 2 : Int), .int .i64 (vq l s 3 : Int), .int .i64 (vq l s 4 : Int), .int .i64 (vq l s 5 : Int), .int .i64 (vq l s 6 : Int), .int .i64 (vq l s 7 : Int), .int .i64 (vq l s 8 : Int), .int .i64 (vq l s 9 : Int), .int .i64 a]) (by simp [results, Try.results42, go_sem, r0, r1, r2, r3, r4, r5, r6, r7, r8, r9, r10, rz]) rfl ?_
      rw [HRD.out]
      exact HG6.out.out hne ⟨(vq l s 0 : Int), (vq l s 1 : Int), (vq l s 2 : Int), (vq l s 3 : Int), (vq l s 4 : Int), (vq l s 5 : Int), (vq l s 6 : Int), (vq l s 7 : Int), (vq l s 8 : Int), (vq l s 9 : Int), a⟩ _ rfl _ _ _ _ _ _ _ _ _ _ _
end Co
end Go.Proofs.Ytfkfckohajpcfaa

/-
  The document's answer of P13.5 (tapestryref13.Decode).
-/
namespace Go.Proofs.Ytfkfckohajpcfaa
open Go.RowKit
set_option linter.unusedSimpArgs false
set_option linter.unusedVariables false
namespace Co

set_option maxRecDepth 100000 in
set_option maxHeartbeats 16000000 in
theorem decodeR_any (l : Dat) (w : World) (hl : l.length ≤ 2097152) :
    Calls Try.prog 24 #[.string (Cd.bs l)] w (DecOut13 (dec l) w) := by
  obtain ⟨i0, hi0, hz0, hz1, hz2⟩ := info_parts info_Func13
  obtain ⟨j0, ji0, jz0, jz1, jz2⟩ := info_parts info_Opts13
  have hdec : dec l = decB l ⟨(pFs l).1, (pOs l).1⟩ (pOs l).2 := rfl
  have HRO := Lib.hid (show (pOs l).2.2 = 0 → POk ⟨(pFs l).1, (pOs l).1⟩ from fun h => (rd_sound (l := l) h).2)
  have l0 : (pF l).2.1 ≤ l.length := (rdU_rd 16 (by decide)).le l (0, 0) (Nat.zero_le _)
  have m0 : (pF l).1 ≤ 16 := rdU_le l 16 _
  have HU1 := Lib.hid (fun W (h : Tr W (w.heap.size + 1) l (0, 0)) => show Calls Try.prog 40 #[.pointer (some ⟨w.heap.size + 1, 0, none⟩), .int .u64 16] W fun r w' => r = .returned (.int .i64 ((pF l).1 : Int)) ∧ Tr w' (w.heap.size + 1) l (pF l).2 ∧ Sq.Kept (fun k => k ≠ w.heap.size + 1) W w' from uintR_any (w.heap.size + 1) l (0, 0) 16 16 rfl W h (Nat.zero_le _) hl (by decide))
  have hF0 : pFs l = goS rdFn l (pF l).1 [] (pF l).2 := rfl
  have hO0 : pO l = rdU l 8 (pFs l).2 := rfl
  have hOs : pOs l = goS rdOpt l (pO l).1 [] (pO l).2 := rfl
  generalize pF l = yF at *
  obtain ⟨K1, s1⟩ := yF
  simp only at l0 m0 HU1 hF0
  have HD := Lib.hid hdec
  have HF0 := Lib.hid hF0
  have HO0 := Lib.hid hO0
  have HOS := Lib.hid hOs
  clear hdec hF0 hO0 hOs
  have hsz : (Cd.bs l).size = l.length := rfl
  have OR := Lib.hid (Ob.Obj.new w 27 [.slice none 0 0, .slice none 0 0])
  have HB0 := Lib.hid (show Below w.heap.size w (w.alloc (.cells #[.slice none 0 0, .slice none 0 0] 27)) from (Below.refl _ _).alloc (Nat.le_refl _) _)
  obtain ⟨wa, hwa⟩ : ∃ wa, wa = w.alloc (.cells #[.slice none 0 0, .slice none 0 0] 27) := ⟨_, rfl⟩
  have hsa : wa.heap.size = w.heap.size + 1 := by rw [hwa]; simp
  have oT := Ob.Obj.new wa 75 [.string (Cd.bs l), .int .i64 0, .int .i64 0]
  rw [hsa] at oT
  obtain ⟨wb, hwb⟩ : ∃ wb, wb = wa.alloc (.cells #[.string (Cd.bs l), .int .i64 0, .int .i64 0] 75) := ⟨_, rfl⟩
  have hsb : wb.heap.size = w.heap.size + 2 := by rw [hwb]; simp [hsa]
  have oP := Ob.Obj.new wb 27 [.slice none 0 0, .slice none 0 0]
  rw [hsb] at oP
  have HS0 := Lib.hid (show PD NL 75 w (w.heap.size + 1) (w.heap.size + 2) [] [] (.slice none 0 0) (.slice none 0 0) (rsT l (0, 0)) (wb.alloc (.cells #[.slice none 0 0, .slice none 0 0] 27)) from
    ⟨oP, World.ownsRow_nil _ _ _ _, fun x hx => (by cases hx), World.ownsRow_nil _ _ _ _, by rw [hwb]; exact Ob.Obj.alloc oT _, by rw [hwb, hwa]; exact (OR.out.alloc _).alloc _, by rw [hwb]; exact ((by rw [hwa]; exact HB0.out : Below w.heap.size w wa).alloc (by omega) _).alloc (by simp; omega) _, by omega, by omega, by omega, by decide, by decide, by decide⟩)
  have HT0 : Hid (Tr (wb.alloc (.cells #[.slice none 0 0, .slice none 0 0] 27)) (w.heap.size + 1) l (0, 0)) := HS0.out.tk
  rw [hwb, hwa] at HS0 HT0
  clear hwb hwa hsa hsb oT oP OR HB0
  go_enter Try.func24, Try.ntmps24
  go_wp2_with (go_at_call 40; (with_reducible refine (HU1.out _ HT0.out).mono ?_); rintro e w1 ⟨rfl, hT1, hk1⟩; have HS1 := Lib.hid (HS0.out.call hk1 hT1))
  clear hk1 hT1 HS0 HT0 HU1
  go_loopw [8] (fun i wr => ∃ (k : Nat) (LU : List (Fn × Value)) (s' : RS) (fv : Value), k ≤ K1 ∧ i = .int .i64 (k : Int) ∧ PD NL 75 w (w.heap.size + 1) (w.heap.size + 2) LU [] fv (.slice none 0 0) (rsT l s') wr ∧ LU.length ≤ k ∧ s'.1 ≤ l.length ∧ Hid (goS rdFn l K1 [] s1 = goS rdFn l (K1 - k) (LU.map (·.1)) s')) (fun i _ => K1 - (intOf i).toNat)
  case atStart => exact ⟨0, [], s1, _, Nat.zero_le _, rfl, HS1.out, Nat.le_refl _, l0, rfl⟩
  case round =>
    clear HS1
    obtain ⟨k, LU, s', fv, hk, rfl, hS, hLk, hsl, hgo⟩ := hrel
    obtain ⟨wo, rfl⟩ : ∃ wo : World, wo = wr := ⟨_, rfl⟩
    obtain ⟨ao, cap, rfl, hg0⟩ := Sq.row_cases hS.rowF
    have t2 := hS.tk.cell 2
    have tz := hS.tk.lt
    unfold rsT at t2
    simp at t2
    by_cases hgoes : k < K1 ∧ s'.2 = 0
    · obtain ⟨hlt, hse⟩ := hgoes
      have hi1 : (k : Int) < (K1 : Int) := by omega
      have hsi : ((s'.2 : Nat) : Int) = 0 := by omega
      rw [hsi] at t2
      have hstep : goS rdFn l K1 [] s1 = goS rdFn l (K1 - (k + 1)) (LU.map (·.1) ++ [(rdFn l s').1]) (rdFn l s').2 := by
        rw [hgo.out, show K1 - k = (K1 - (k + 1)) + 1 by omega, goS, if_neg (by rw [hse]; simp)]
      have e1 : (rdFn l s').2.1 ≤ l.length := rdFn_rd.le l s' hsl
      have HX := Lib.hid (fun W (h : Tr W (w.heap.size + 1) l s') => functionR_any (w.heap.size + 1) l s' W h hsl hl)
      generalize rdFn l s' = y1 at *
      obtain ⟨f, sa⟩ := y1
      simp only at hstep e1 HX
      have HST := Lib.hid hstep
      obtain ⟨b0, b1, f0, f1, z, zt⟩ := hS.cells
      have HS := Lib.hid (hS.below (Below.refl _ _).drew)
      clear hgo hS hstep b1 f0 f1 hsi hse
      go_wp2_with fail
      refine wp_region_noPanic ?_
      go_region_law (first
        | (go_simp; go_at_call 41; refine (HX.out _ HS.out.tk).mono ?_; rintro e w6 ⟨u, rfl, hu, hT, hk⟩; have HS6 := Lib.hid (HS.out.call hk hT); have HU6 := Lib.hid (lower13 hu (B' := w.heap.size) HS.out.be.size); obtain ⟨au, cu, rfl, hgu⟩ := Sq.row_cases hu; obtain ⟨c0, _, _, _, y2, _⟩ := HS6.out.cells; have hbz := HS6.out.be.size; clear hu)
        | (refine step_append_lies _ (by rfl) _ _ _ (by rfl) w.heap.size 52 i0 _ 3 40 Try.underlying24 hi0 hz0 hz1 hz2 rfl (by omega) (.slice ao LU.length cap) LU.length _ (by rfl) (HS6.out.rowF.alloc _)
            ⟨w6.heap.size, 0, none⟩ 1 1 [.int .i64 f.kind, .int .i64 f.name, .slice au f.ops.length cu] (by rfl) (by rfl) (World.news_of_block (cs := #[.int .i64 f.kind, .int .i64 f.name, .slice au f.ops.length cu]) (t := 52) (fr := (0, 0)) (heap_alloc_new w6 _)) (by simp [Value.oneCell'])
            (by omega) (by unfold maxLen; omega) (by omega) (by simp at *; omega) (w6.heap.size + 1) (by simp) ?_; intro gb cap8 w8 hown hgrow hat8 hlt8; have HS8 := Lib.hid (HS6.out.below ((Below.refl _ _).alloc (Nat.le_refl _) (.cells #[.int .i64 f.kind, .int .i64 f.name, .slice au f.ops.length cu] 52))); have hob := HS8.out.box.grown hgrow (HS8.out.box.not_row (by decide) HS8.out.rowF); have c8 := hob.cell 0; have f8 := hob.frozen 0; simp at c8; have HS9 := Lib.hid (HS8.out.addF f (.slice au f.ops.length cu) (HU6.out.alloc _) hown hgrow); clear hown hgrow hob))
      all_goals
        refine NoPanic.normal ?_
        go_wp2_with fail
        go_roundw
        case rel => exact ⟨k + 1, LU ++ [(f, .slice au f.ops.length cu)], sa, _, by omega, by go_num, HS9.out, by rw [List.length_append, List.length_singleton]; omega, e1, by rw [List.map_append]; exact HST⟩
        case measure => simp [intOf]; omega
    · have hex : pFs l = (LU.map (·.1), s') := by
        rw [HF0.out, hgo.out]
        by_cases hlt : k < K1
        · rw [goS_stuck l _ _ s' (fun hz => hgoes ⟨hlt, hz⟩)]
        · rw [show K1 - k = 0 by omega, goS]
      have hqo := HO0.out
      rw [hex] at hqo
      simp only at hqo
      have hos := HOS.out
      rw [hqo] at hos
      have HU2 := Lib.hid (fun W (h : Tr W (w.heap.size + 1) l s') => uintR_any (w.heap.size + 1) l s' 8 8 rfl W h hsl hl (by decide))
      have l2 : (rdU l 8 s').2.1 ≤ l.length := (rdU_rd 8 (by decide)).le l s' hsl
      have m2 : (rdU l 8 s').1 ≤ 8 := rdU_le l 8 _
      generalize rdU l 8 s' = y2 at *
      obtain ⟨K2, s2⟩ := y2
      simp only at hos HU2 l2 m2
      have HEX := Lib.hid hex
      have HOS2 := Lib.hid hos
      have HS := Lib.hid hS
      have HT2 : Hid (Tr wo (w.heap.size + 1) l s') := hS.tk
      clear hgo hex hqo hos hS HOS HO0 HF0
      by_cases hlt : k < K1
      · have hi1 : (k : Int) < (K1 : Int) := by omega
        have hsb : (((s'.2 : Nat) : Int) == 0) = false := by
          have : s'.2 ≠ 0 := fun hz => hgoes ⟨hlt, hz⟩
          rw [beq_eq_false_iff_ne]; omega
        clear hgoes
        go_wp2_with (go_at_call 40; (with_reducible refine (HU2.out _ HT2.out).mono ?_); rintro e w3 ⟨rfl, hT3, hk3⟩; have HS3 := Lib.hid (HS.out.call hk3 hT3))
        clear hT3 hk3 HS HT2 HU2 t2 tz
        go_loopw [9] (fun i wr => ∃ (k : Nat) (O : List Opt) (s3 : RS) (ov : Value), k ≤ K2 ∧ i = .int .i64 (k : Int) ∧ PD NL 75 w (w.heap.size + 1) (w.heap.size + 2) LU O (.slice ao LU.length cap) ov (rsT l s3) wr ∧ O.length ≤ k ∧ s3.1 ≤ l.length ∧ Hid (goS rdOpt l K2 [] s2 = goS rdOpt l (K2 - k) O s3)) (fun i _ => K2 - (intOf i).toNat)
        case atStart => exact ⟨0, [], s2, _, Nat.zero_le _, rfl, HS3.out, Nat.le_refl _, l2, rfl⟩
        case round =>
          clear HS3
          obtain ⟨k2, O, s3, ov, hk2, rfl, hS, hOk, hsl3, hgo⟩ := hrel
          obtain ⟨wo, rfl⟩ : ∃ wo : World, wo = wr := ⟨_, rfl⟩
          obtain ⟨oo, ocap, rfl, hg1⟩ := Sq.row_cases hS.rowO
          have t2 := hS.tk.cell 2
          have tz := hS.tk.lt
          unfold rsT at t2
          simp at t2
          by_cases hgoes : k2 < K2 ∧ s3.2 = 0
          · obtain ⟨hlt2, hse⟩ := hgoes
            have hi2 : (k2 : Int) < (K2 : Int) := by omega
            have hsi : ((s3.2 : Nat) : Int) = 0 := by omega
            rw [hsi] at t2
            have hstep : goS rdOpt l K2 [] s2 = goS rdOpt l (K2 - (k2 + 1)) (O ++ [(rdOpt l s3).1]) (rdOpt l s3).2 := by
              rw [hgo.out, show K2 - k2 = (K2 - (k2 + 1)) + 1 by omega, goS, if_neg (by rw [hse]; simp)]
            have e1 : (rdOpt l s3).2.1 ≤ l.length := rdOpt_rd.le l s3 hsl3
            have HX := Lib.hid (fun W (h : Tr W (w.heap.size + 1) l s3) => optionsRd_any (w.heap.size + 1) l s3 W h hsl3 hl)
            generalize rdOpt l s3 = y1 at *
            obtain ⟨⟨q0, q1, q2, q3, q4, q5, q6, q7, q8, q9, qN⟩, sa⟩ := y1
            simp only at hstep e1 HX
            unfold OptOut optV at HX
            simp only at HX
            have HST := Lib.hid hstep
            obtain ⟨b0, b1, f0, f1, z, zt⟩ := hS.cells
            have HS := Lib.hid (hS.below (Below.refl _ _).drew)
            clear hgo hS hstep b0 f0 f1 hsi hse
            go_wp2_with fail
            refine wp_region_noPanic ?_
            go_region_law (first
              | (go_simp; go_at_call 42; refine (HX.out _ HS.out.tk).mono ?_; rintro e w6 ⟨rfl, hT, hk⟩; have HS6 := Lib.hid (HS.out.call hk hT); obtain ⟨_, c1, _, _, y2, _⟩ := HS6.out.cells; have hbz := HS6.out.be.size)
              | (refine step_append_lies _ (by rfl) _ _ _ (by rfl) w.heap.size 54 j0 _ 11 88 Try.underlying25 ji0 jz0 jz1 jz2 rfl (by omega) (.slice oo O.length ocap) O.length _ (by rfl) (HS6.out.rowO.alloc _)
                  ⟨w6.heap.size, 0, none⟩ 1 1 [.int .i64 q0, .int .i64 q1, .int .i64 q2, .int .i64 q3, .int .i64 q4, .int .i64 q5, .int .i64 q6, .int .i64 q7, .int .i64 q8, .int .i64 q9, .int .i64 qN] (by rfl) (by rfl) (World.news_of_block (cs := #[.int .i64 q0, .int .i64 q1, .int .i64 q2, .int .i64 q3, .int .i64 q4, .int .i64 q5, .int .i64 q6, .int .i64 q7, .int .i64 q8, .int .i64 q9, .int .i64 qN]) (t := 54) (fr := (0, 0)) (heap_alloc_new w6 _)) (by simp [Value.oneCell'])
                  (by omega) (by unfold maxLen; omega) (by omega) (by simp at *; omega) (w6.heap.size + 1) (by simp) ?_; intro gb cap8 w8 hown hgrow hat8 hlt8; have HS8 := Lib.hid (HS6.out.below ((Below.refl _ _).alloc (Nat.le_refl _) (.cells #[.int .i64 q0, .int .i64 q1, .int .i64 q2, .int .i64 q3, .int .i64 q4, .int .i64 q5, .int .i64 q6, .int .i64 q7, .int .i64 q8, .int .i64 q9, .int .i64 qN] 54))); have hob := HS8.out.box.grown hgrow (HS8.out.box.not_row (by decide) HS8.out.rowO); have c8 := hob.cell 1; have f8 := hob.frozen 1; simp at c8; have HS9 := Lib.hid (HS8.out.addO ⟨q0, q1, q2, q3, q4, q5, q6, q7, q8, q9, qN⟩ hown hgrow); clear hown hgrow hob))
            all_goals
              refine NoPanic.normal ?_
              go_wp2_with fail
              go_roundw
              case rel => exact ⟨k2 + 1, O ++ [⟨q0, q1, q2, q3, q4, q5, q6, q7, q8, q9, qN⟩], sa, _, by omega, by go_num, HS9.out, by rw [List.length_append, List.length_singleton]; omega, e1, HST⟩
              case measure => simp [intOf]; omega
          · have hqs : pOs l = (O, s3) := by
              rw [HOS2.out, hgo.out]
              by_cases hlt : k2 < K2
              · rw [goS_stuck l _ _ s3 (fun hz => hgoes ⟨hlt, hz⟩)]
              · rw [show K2 - k2 = 0 by omega, goS]
            have hd := HD.out
            have hro := HRO.out
            rw [hqs, HEX.out] at hd hro
            simp only at hd hro
            obtain ⟨at', er⟩ := s3
            simp only at hsl3 hgoes t2
            have t0 := hS.tk.cell 0
            have t1 := hS.tk.cell 1
            have ft1 := hS.tk.frozen 1
            have ft2 := hS.tk.frozen 2
            unfold rsT at t0 t1
            simp at t0 t1
            obtain ⟨b0, b1, f0, f1, z, zt⟩ := hS.cells
            obtain ⟨r0, r1, g0, g1, rz⟩ := hS.rcells
            have HS := Lib.hid hS
            clear hgo hqs HD HRO HOS2 HEX
            by_cases hlt2 : k2 < K2
            · have hi2 : (k2 : Int) < (K2 : Int) := by omega
              have he : er ≠ 0 := fun hz => hgoes ⟨hlt2, hz⟩
              clear hgoes
              have heb : (((er : Nat) : Int) != 0) = true := by simp; omega
              have heb2 : (((er : Nat) : Int) == 0) = false := by simp; omega
              have HE := Lib.hid (show dec l = (empty, er, at') by rw [hd]; unfold decB; rw [if_pos he])
              clear hd hro he
              go_wp2_with fail
              go_big_region
              all_goals (try go_wp2_with fail)
              all_goals refine bodyPost_ret (v := .tuple #[.agg #[.slice none 0 0, .slice none 0 0], .int .i64 (er : Int), .int .i64 (at' : Int)]) (by simp [results, Try.results24, go_sem, r0, r1, rz]) rfl ?_
              all_goals rw [HE.out]
              all_goals refine ⟨_, _, rfl, empty_pr _ _, ?_⟩
              all_goals exact ((HS.out.be.setCell (p := ⟨w.heap.size, 0, none⟩) (Nat.le_refl _) _).setCell (p := ⟨w.heap.size, 1, none⟩) (Nat.le_refl _) _).drew
            · have hi2 : ¬ (k2 : Int) < (K2 : Int) := by omega
              clear hgoes
              by_cases he : er = 0
              · subst he
                by_cases hat : at' < l.length
                · have hai : (at' : Int) < (l.length : Int) := by omega
                  have HE := Lib.hid (show dec l = (empty, 3, at') by rw [hd]; unfold decB; rw [if_neg (by simp), if_pos hat])
                  clear hd hro hat
                  go_wp2_with fail
                  go_big_region
                  all_goals (try go_wp2_with fail)
                  all_goals refine bodyPost_ret (v := .tuple #[.agg #[.slice none 0 0, .slice none 0 0], .int .i64 3, .int .i64 (at' : Int)]) (by simp [results, Try.results24, go_sem, r0, r1, rz]) rfl ?_
                  all_goals rw [HE.out]
                  all_goals refine ⟨_, _, rfl, empty_pr _ _, ?_⟩
                  all_goals exact (((HS.out.be.setCell (p := ⟨w.heap.size + 1, 2, none⟩) (by show w.heap.size ≤ w.heap.size + 1; omega) _).setCell (p := ⟨w.heap.size, 0, none⟩) (Nat.le_refl _) _).setCell (p := ⟨w.heap.size, 1, none⟩) (Nat.le_refl _) _).drew
                · have hai : ¬ (at' : Int) < (l.length : Int) := by omega
                  have hpk : POk ⟨LU.map (·.1), O⟩ := hro rfl
                  have hdd : dec l = if (check ⟨LU.map (·.1), O⟩).1 ≠ 0 then (empty, 40, 0) else (⟨LU.map (·.1), O⟩, 0, 0) := by rw [hd]; unfold decB; rw [if_neg (by simp), if_neg hat]
                  have HCK := Lib.hid (checkR_any _ _ _ wo hS.pr (pok_in hpk))
                  clear hd hro hat
                  rcases check_cases (⟨LU.map (·.1), O⟩ : Prog) with hbad | hgood
                  · obtain ⟨x, y, hxy⟩ : ∃ x y, check (⟨LU.map (·.1), O⟩ : Prog) = (40, x, y) := by
                      generalize check (⟨LU.map (·.1), O⟩ : Prog) = r at *
                      obtain ⟨a, b, c⟩ := r
                      change a = 40 at hbad
                      subst hbad
                      exact ⟨_, _, rfl⟩
                    have HE := Lib.hid (show dec l = (empty, 40, 0) by rw [hdd, hxy]; rfl)
                    rw [hxy] at HCK
                    unfold chkV at HCK
                    simp only at HCK
                    clear hdd hxy hbad
                    go_wp2_with (go_at_call 17; (with_reducible refine HCK.out.mono ?_); rintro e w4 ⟨rfl, hb4⟩; have HS4 := Lib.hid (HS.out.below hb4); obtain ⟨x0, x1, _, _, _, _⟩ := HS4.out.cells; obtain ⟨y0, y1, v0, v1, vz⟩ := HS4.out.rcells; clear r0 r1 g0 g1 rz b0 b1 f0 f1)
                    refine bodyPost_ret (v := .tuple #[.agg #[.slice none 0 0, .slice none 0 0], .int .i64 40, .int .i64 0]) (by simp [results, Try.results24, go_sem, y0, y1, vz]) rfl ?_
                    rw [HE.out]
                    exact ⟨_, _, rfl, empty_pr _ _, (HS4.out.be.setCell (p := ⟨w.heap.size, 0, none⟩) (Nat.le_refl _) _).setCell (p := ⟨w.heap.size, 1, none⟩) (Nat.le_refl _) _⟩
                  · have HE := Lib.hid (show dec l = (⟨LU.map (·.1), O⟩, 0, 0) by rw [hdd, hgood]; rfl)
                    rw [hgood] at HCK
                    unfold chkV at HCK
                    simp only at HCK
                    clear hdd hgood
                    go_wp2_with (go_at_call 17; (with_reducible refine HCK.out.mono ?_); rintro e w4 ⟨rfl, hb4⟩; have HS4 := Lib.hid (HS.out.below hb4); obtain ⟨x0, x1, _, _, _, _⟩ := HS4.out.cells; obtain ⟨y0, y1, v0, v1, vz⟩ := HS4.out.rcells; clear r0 r1 g0 g1 rz b0 b1 f0 f1)
                    refine bodyPost_ret (v := .tuple #[.agg #[.slice ao LU.length cap, .slice oo O.length ocap], .int .i64 0, .int .i64 0]) (by simp [results, Try.results24, go_sem, y0, y1, vz]) rfl ?_
                    rw [HE.out]
                    exact ⟨_, _, rfl, HS4.out.res2 _ _, (HS4.out.be.setCell (p := ⟨w.heap.size, 0, none⟩) (Nat.le_refl _) _).setCell (p := ⟨w.heap.size, 1, none⟩) (Nat.le_refl _) _⟩
              · have heb : (((er : Nat) : Int) != 0) = true := by simp; omega
                have heb2 : (((er : Nat) : Int) == 0) = false := by simp; omega
                have HE := Lib.hid (show dec l = (empty, er, at') by rw [hd]; unfold decB; rw [if_pos he])
                clear hd hro he
                go_wp2_with fail
                go_big_region
                all_goals (try go_wp2_with fail)
                all_goals refine bodyPost_ret (v := .tuple #[.agg #[.slice none 0 0, .slice none 0 0], .int .i64 (er : Int), .int .i64 (at' : Int)]) (by simp [results, Try.results24, go_sem, r0, r1, rz]) rfl ?_
                all_goals rw [HE.out]
                all_goals refine ⟨_, _, rfl, empty_pr _ _, ?_⟩
                all_goals exact ((HS.out.be.setCell (p := ⟨w.heap.size, 0, none⟩) (Nat.le_refl _) _).setCell (p := ⟨w.heap.size, 1, none⟩) (Nat.le_refl _) _).drew
      · have hi1 : ¬ (k : Int) < (K1 : Int) := by omega
        clear hgoes
        go_wp2_with (go_at_call 40; (with_reducible refine (HU2.out _ HT2.out).mono ?_); rintro e w3 ⟨rfl, hT3, hk3⟩; have HS3 := Lib.hid (HS.out.call hk3 hT3))
        clear hT3 hk3 HS HT2 HU2 t2 tz
        go_loopw [9] (fun i wr => ∃ (k : Nat) (O : List Opt) (s3 : RS) (ov : Value), k ≤ K2 ∧ i = .int .i64 (k : Int) ∧ PD NL 75 w (w.heap.size + 1) (w.heap.size + 2) LU O (.slice ao LU.length cap) ov (rsT l s3) wr ∧ O.length ≤ k ∧ s3.1 ≤ l.length ∧ Hid (goS rdOpt l K2 [] s2 = goS rdOpt l (K2 - k) O s3)) (fun i _ => K2 - (intOf i).toNat)
        case atStart => exact ⟨0, [], s2, _, Nat.zero_le _, rfl, HS3.out, Nat.le_refl _, l2, rfl⟩
        case round =>
          clear HS3
          obtain ⟨k2, O, s3, ov, hk2, rfl, hS, hOk, hsl3, hgo⟩ := hrel
          obtain ⟨wo, rfl⟩ : ∃ wo : World, wo = wr := ⟨_, rfl⟩
          obtain ⟨oo, ocap, rfl, hg1⟩ := Sq.row_cases hS.rowO
          have t2 := hS.tk.cell 2
          have tz := hS.tk.lt
          unfold rsT at t2
          simp at t2
          by_cases hgoes : k2 < K2 ∧ s3.2 = 0
          · obtain ⟨hlt2, hse⟩ := hgoes
            have hi2 : (k2 : Int) < (K2 : Int) := by omega
            have hsi : ((s3.2 : Nat) : Int) = 0 := by omega
            rw [hsi] at t2
            have hstep : goS rdOpt l K2 [] s2 = goS rdOpt l (K2 - (k2 + 1)) (O ++ [(rdOpt l s3).1]) (rdOpt l s3).2 := by
              rw [hgo.out, show K2 - k2 = (K2 - (k2 + 1)) + 1 by omega, goS, if_neg (by rw [hse]; simp)]
            have e1 : (rdOpt l s3).2.1 ≤ l.length := rdOpt_rd.le l s3 hsl3
            have HX := Lib.hid (fun W (h : Tr W (w.heap.size + 1) l s3) => optionsRd_any (w.heap.size + 1) l s3 W h hsl3 hl)
            generalize rdOpt l s3 = y1 at *
            obtain ⟨⟨q0, q1, q2, q3, q4, q5, q6, q7, q8, q9, qN⟩, sa⟩ := y1
            simp only at hstep e1 HX
            unfold OptOut optV at HX
            simp only at HX
            have HST := Lib.hid hstep
            obtain ⟨b0, b1, f0, f1, z, zt⟩ := hS.cells
            have HS := Lib.hid (hS.below (Below.refl _ _).drew)
            clear hgo hS hstep b0 f0 f1 hsi hse
            go_wp2_with fail
            refine wp_region_noPanic ?_
            go_region_law (first
              | (go_simp; go_at_call 42; refine (HX.out _ HS.out.tk).mono ?_; rintro e w6 ⟨rfl, hT, hk⟩; have HS6 := Lib.hid (HS.out.call hk hT); obtain ⟨_, c1, _, _, y2, _⟩ := HS6.out.cells; have hbz := HS6.out.be.size)
              | (refine step_append_lies _ (by rfl) _ _ _ (by rfl) w.heap.size 54 j0 _ 11 88 Try.underlying25 ji0 jz0 jz1 jz2 rfl (by omega) (.slice oo O.length ocap) O.length _ (by rfl) (HS6.out.rowO.alloc _)
                  ⟨w6.heap.size, 0, none⟩ 1 1 [.int .i64 q0, .int .i64 q1, .int .i64 q2, .int .i64 q3, .int .i64 q4, .int .i64 q5, .int .i64 q6, .int .i64 q7, .int .i64 q8, .int .i64 q9, .int .i64 qN] (by rfl) (by rfl) (World.news_of_block (cs := #[.int .i64 q0, .int .i64 q1, .int .i64 q2, .int .i64 q3, .int .i64 q4, .int .i64 q5, .int .i64 q6, .int .i64 q7, .int .i64 q8, .int .i64 q9, .int .i64 qN]) (t := 54) (fr := (0, 0)) (heap_alloc_new w6 _)) (by simp [Value.oneCell'])
                  (by omega) (by unfold maxLen; omega) (by omega) (by simp at *; omega) (w6.heap.size + 1) (by simp) ?_; intro gb cap8 w8 hown hgrow hat8 hlt8; have HS8 := Lib.hid (HS6.out.below ((Below.refl _ _).alloc (Nat.le_refl _) (.cells #[.int .i64 q0, .int .i64 q1, .int .i64 q2, .int .i64 q3, .int .i64 q4, .int .i64 q5, .int .i64 q6, .int .i64 q7, .int .i64 q8, .int .i64 q9, .int .i64 qN] 54))); have hob := HS8.out.box.grown hgrow (HS8.out.box.not_row (by decide) HS8.out.rowO); have c8 := hob.cell 1; have f8 := hob.frozen 1; simp at c8; have HS9 := Lib.hid (HS8.out.addO ⟨q0, q1, q2, q3, q4, q5, q6, q7, q8, q9, qN⟩ hown hgrow); clear hown hgrow hob))
            all_goals
              refine NoPanic.normal ?_
              go_wp2_with fail
              go_roundw
              case rel => exact ⟨k2 + 1, O ++ [⟨q0, q1, q2, q3, q4, q5, q6, q7, q8, q9, qN⟩], sa, _, by omega, by go_num, HS9.out, by rw [List.length_append, List.length_singleton]; omega, e1, HST⟩
              case measure => simp [intOf]; omega
          · have hqs : pOs l = (O, s3) := by
              rw [HOS2.out, hgo.out]
              by_cases hlt : k2 < K2
              · rw [goS_stuck l _ _ s3 (fun hz => hgoes ⟨hlt, hz⟩)]
              · rw [show K2 - k2 = 0 by omega, goS]
            have hd := HD.out
            have hro := HRO.out
            rw [hqs, HEX.out] at hd hro
            simp only at hd hro
            obtain ⟨at', er⟩ := s3
            simp only at hsl3 hgoes t2
            have t0 := hS.tk.cell 0
            have t1 := hS.tk.cell 1
            have ft1 := hS.tk.frozen 1
            have ft2 := hS.tk.frozen 2
            unfold rsT at t0 t1
            simp at t0 t1
            obtain ⟨b0, b1, f0, f1, z, zt⟩ := hS.cells
            obtain ⟨r0, r1, g0, g1, rz⟩ := hS.rcells
            have HS := Lib.hid hS
            clear hgo hqs HD HRO HOS2 HEX
            by_cases hlt2 : k2 < K2
            · have hi2 : (k2 : Int) < (K2 : Int) := by omega
              have he : er ≠ 0 := fun hz => hgoes ⟨hlt2, hz⟩
              clear hgoes
              have heb : (((er : Nat) : Int) != 0) = true := by simp; omega
              have heb2 : (((er : Nat) : Int) == 0) = false := by simp; omega
              have HE := Lib.hid (show dec l = (empty, er, at') by rw [hd]; unfold decB; rw [if_pos he])
              clear hd hro he
              go_wp2_with fail
              go_big_region
              all_goals (try go_wp2_with fail)
              all_goals refine bodyPost_ret (v := .tuple #[.agg #[.slice none 0 0, .slice none 0 0], .int .i64 (er : Int), .int .i64 (at' : Int)]) (by simp [results, Try.results24, go_sem, r0, r1, rz]) rfl ?_
              all_goals rw [HE.out]
              all_goals refine ⟨_, _, rfl, empty_pr _ _, ?_⟩
              all_goals exact ((HS.out.be.setCell (p := ⟨w.heap.size, 0, none⟩) (Nat.le_refl _) _).setCell (p := ⟨w.heap.size, 1, none⟩) (Nat.le_refl _) _).drew
            · have hi2 : ¬ (k2 : Int) < (K2 : Int) := by omega
              clear hgoes
              by_cases he : er = 0
              · subst he
                by_cases hat : at' < l.length
                · have hai : (at' : Int) < (l.length : Int) := by omega
                  have HE := Lib.hid (show dec l = (empty, 3, at') by rw [hd]; unfold decB; rw [if_neg (by simp), if_pos hat])
                  clear hd hro hat
                  go_wp2_with fail
                  go_big_region
                  all_goals (try go_wp2_with fail)
                  all_goals refine bodyPost_ret (v := .tuple #[.agg #[.slice none 0 0, .slice none 0 0], .int .i64 3, .int .i64 (at' : Int)]) (by simp [results, Try.results24, go_sem, r0, r1, rz]) rfl ?_
                  all_goals rw [HE.out]
                  all_goals refine ⟨_, _, rfl, empty_pr _ _, ?_⟩
                  all_goals exact (((HS.out.be.setCell (p := ⟨w.heap.size + 1, 2, none⟩) (by show w.heap.size ≤ w.heap.size + 1; omega) _).setCell (p := ⟨w.heap.size, 0, none⟩) (Nat.le_refl _) _).setCell (p := ⟨w.heap.size, 1, none⟩) (Nat.le_refl _) _).drew
                · have hai : ¬ (at' : Int) < (l.length : Int) := by omega
                  have hpk : POk ⟨LU.map (·.1), O⟩ := hro rfl
                  have hdd : dec l = if (check ⟨LU.map (·.1), O⟩).1 ≠ 0 then (empty, 40, 0) else (⟨LU.map (·.1), O⟩, 0, 0) := by rw [hd]; unfold decB; rw [if_neg (by simp), if_neg hat]
                  have HCK := Lib.hid (checkR_any _ _ _ wo hS.pr (pok_in hpk))
                  clear hd hro hat
                  rcases check_cases (⟨LU.map (·.1), O⟩ : Prog) with hbad | hgood
                  · obtain ⟨x, y, hxy⟩ : ∃ x y, check (⟨LU.map (·.1), O⟩ : Prog) = (40, x, y) := by
                      generalize check (⟨LU.map (·.1), O⟩ : Prog) = r at *
                      obtain ⟨a, b, c⟩ := r
                      change a = 40 at hbad
                      subst hbad
                      exact ⟨_, _, rfl⟩
                    have HE := Lib.hid (show dec l = (empty, 40, 0) by rw [hdd, hxy]; rfl)
                    rw [hxy] at HCK
                    unfold chkV at HCK
                    simp only at HCK
                    clear hdd hxy hbad
                    go_wp2_with (go_at_call 17; (with_reducible refine HCK.out.mono ?_); rintro e w4 ⟨rfl, hb4⟩; have HS4 := Lib.hid (HS.out.below hb4); obtain ⟨x0, x1, _, _, _, _⟩ := HS4.out.cells; obtain ⟨y0, y1, v0, v1, vz⟩ := HS4.out.rcells; clear r0 r1 g0 g1 rz b0 b1 f0 f1)
                    refine bodyPost_ret (v := .tuple #[.agg #[.slice none 0 0, .slice none 0 0], .int .i64 40, .int .i64 0]) (by simp [results, Try.results24, go_sem, y0, y1, vz]) rfl ?_
                    rw [HE.out]
                    exact ⟨_, _, rfl, empty_pr _ _, (HS4.out.be.setCell (p := ⟨w.heap.size, 0, none⟩) (Nat.le_refl _) _).setCell (p := ⟨w.heap.size, 1, none⟩) (Nat.le_refl _) _⟩
                  · have HE := Lib.hid (show dec l = (⟨LU.map (·.1), O⟩, 0, 0) by rw [hdd, hgood]; rfl)
                    rw [hgood] at HCK
                    unfold chkV at HCK
                    simp only at HCK
                    clear hdd hgood
                    go_wp2_with (go_at_call 17; (with_reducible refine HCK.out.mono ?_); rintro e w4 ⟨rfl, hb4⟩; have HS4 := Lib.hid (HS.out.below hb4); obtain ⟨x0, x1, _, _, _, _⟩ := HS4.out.cells; obtain ⟨y0, y1, v0, v1, vz⟩ := HS4.out.rcells; clear r0 r1 g0 g1 rz b0 b1 f0 f1)
                    refine bodyPost_ret (v := .tuple #[.agg #[.slice ao LU.length cap, .slice oo O.length ocap], .int .i64 0, .int .i64 0]) (by simp [results, Try.results24, go_sem, y0, y1, vz]) rfl ?_
                    rw [HE.out]
                    exact ⟨_, _, rfl, HS4.out.res2 _ _, (HS4.out.be.setCell (p := ⟨w.heap.size, 0, none⟩) (Nat.le_refl _) _).setCell (p := ⟨w.heap.size, 1, none⟩) (Nat.le_refl _) _⟩
              · have heb : (((er : Nat) : Int) != 0) = true := by simp; omega
                have heb2 : (((er : Nat) : Int) == 0) = false := by simp; omega
                have HE := Lib.hid (show dec l = (empty, er, at') by rw [hd]; unfold decB; rw [if_pos he])
                clear hd hro he
                go_wp2_with fail
                go_big_region
                all_goals (try go_wp2_with fail)
                all_goals refine bodyPost_ret (v := .tuple #[.agg #[.slice none 0 0, .slice none 0 0], .int .i64 (er : Int), .int .i64 (at' : Int)]) (by simp [results, Try.results24, go_sem, r0, r1, rz]) rfl ?_
                all_goals rw [HE.out]
                all_goals refine ⟨_, _, rfl, empty_pr _ _, ?_⟩
                all_goals exact ((HS.out.be.setCell (p := ⟨w.heap.size, 0, none⟩) (Nat.le_refl _) _).setCell (p := ⟨w.heap.size, 1, none⟩) (Nat.le_refl _) _).drew
end Co
end Go.Proofs.Ytfkfckohajpcfaa

/-
  The law CodeDecodes walked.
-/
namespace Go.Proofs.Ytfkfckohajpcfaa
open Go.RowKit
set_option linter.unusedSimpArgs false
set_option linter.unusedVariables false
namespace Co
theorem empty_in : ProgIn empty := ⟨fun f h => (by cases h), fun o h => (by cases h), Nat.zero_le _, Nat.zero_le _⟩
theorem dec_in (l : Dat) : ProgIn (dec l).1 := by
  by_cases h : (dec l).2.1 = 0
  · obtain ⟨h1, h2, h3, h4⟩ := dec_ok h
    have : (dec l).1 = rdP l := congrArg (·.1) h1
    rw [this]
    exact pok_in (rd_sound h2).2
  · have : (dec l).1 = empty := by
      unfold dec decB at h ⊢
      split
      · rfl
      · split
        · rfl
        · split
          · rfl
          · rename_i h1 h2 h3
            rw [if_neg h1, if_neg h2, if_neg h3] at h
            exact absurd rfl h
    rw [this]
    exact empty_in
/-- the document's Decode, as the law uses it -/
theorem decodeR_at (l : Dat) (q : Prog) (f a : Nat) (hd : dec l = (q, f, a)) (W : World) (hl : l.length ≤ 2097152) :
    Calls Try.prog 24 #[.string (Cd.bs l)] W fun e w' => ∃ (x y : Option Addr) (c d : Nat), e = .returned (.tuple #[.agg #[.slice x q.funcs.length c, .slice y q.opts.length d], .int .i64 (f : Int), .int .i64 (a : Int)]) ∧ Pr w'.heap.size w' (.slice x q.funcs.length c) (.slice y q.opts.length d) q ∧ Below W.heap.size W w' := by
  refine (decodeR_any l W hl).mono ?_
  rintro e w' ⟨fv, ov, he, hP, hb⟩
  rw [hd] at he hP
  obtain ⟨x, c, rfl, y, d, rfl⟩ := pr_form hP
  exact ⟨x, y, c, d, he, hP, hb⟩

set_option maxRecDepth 100000 in
set_option maxHeartbeats 8000000 in
theorem codeDecodes_law (s : ByteArray) (w : World) (hs : s.size ≤ 1048576) :
    Calls Try.prog 7 #[.string s] w fun e w' => e = .returned (.bool true) ∧ Below w.heap.size w w' := by
  obtain ⟨l, rfl, hl⟩ := bs_of s
  rw [← hl] at hs
  have hq0 := dec_in l
  have HS := Lib.hid (shown_any w)
  obtain ⟨q, f, a, hd⟩ : ∃ q f a, dec l = (q, f, a) := ⟨_, _, _, rfl⟩
  have hq : ProgIn q := by rw [hd] at hq0; exact hq0
  have HD := Lib.hid (fun W => decode_at l q f a hd W (by omega))
  have HR := Lib.hid (fun W => decodeR_at l q f a hd W (by omega))
  have HSA := Lib.hid (fun fv2 ov2 fv3 ov3 W (h2 : Pr W.heap.size W fv2 ov2 q) (h3 : Pr W.heap.size W fv3 ov3 q) => sameR_any fv2 ov2 fv3 ov3 q W h2 h3 hq)
  clear hq hd hq0
  go_enter Try.func7, Try.ntmps7
  go_wp2_with (first
    | (go_at_call 10; (with_reducible refine HS.out.mono ?_); rintro e w1 ⟨rfl, hb1⟩)
    | (go_at_call 23; (with_reducible refine (HD.out _).mono ?_); rintro e w3 ⟨xa, ya, xc, yc, rfl, hP3, hb3⟩; have hB3 := hb1.trans (hb3.mono hb1.size); have HB4 := Lib.hid (hB3.alloc hB3.size (.cells #[.slice xa q.funcs.length xc, .slice ya q.opts.length yc] 27)); have oX := Ob.Obj.new w3 27 [.slice xa q.funcs.length xc, .slice ya q.opts.length yc]; have HX := Lib.hid (Pr.grow hP3 ((Below.refl w3.heap.size w3).alloc (Nat.le_refl _) (.cells #[.slice xa q.funcs.length xc, .slice ya q.opts.length yc] 27)) (Nat.le_refl _)); clear hP3)
    | (go_at_call 24; (with_reducible refine (HR.out _).mono ?_); rintro e w6 ⟨za, ta, zc, tc, rfl, hP6, hb6⟩; have hB6 := HB4.out.trans (hb6.mono HB4.out.size); have HP6 := Lib.hid (Pr.grow hP6 ((Below.refl w6.heap.size w6).alloc (Nat.le_refl _) (.cells #[.slice za q.funcs.length zc, .slice ta q.opts.length tc] 27)) (Nat.le_refl _)); have HX6 := Lib.hid (Pr.grow (Pr.grow HX.out hb6 (Nat.le_refl _)) ((Below.refl w6.heap.size w6).alloc (Nat.le_refl _) (.cells #[.slice za q.funcs.length zc, .slice ta q.opts.length tc] 27)) (Nat.le_refl _)); have HB7 := Lib.hid (hB6.alloc hB6.size (.cells #[.slice za q.funcs.length zc, .slice ta q.opts.length tc] 27)); have oX6 := (oX.below hb6).alloc (.cells #[.slice za q.funcs.length zc, .slice ta q.opts.length tc] 27); have oZ := Ob.Obj.new w6 27 [.slice za q.funcs.length zc, .slice ta q.opts.length tc]; have k0 := oX6.cell 0; have k1 := oX6.cell 1; have j0 := oZ.cell 0; have j1 := oZ.cell 1; have hz6 : w3.heap.size < w6.heap.size := (oX.below hb6).lt; simp at k0 k1 j0 j1; have i0 := (oX.below hb6).cell 0; have i1 := (oX.below hb6).cell 1; simp at i0 i1; clear hP6)
    | (go_at_call 18; (with_reducible refine (HSA.out _ _ _ _ _ HX6.out HP6.out).mono ?_); rintro e w8 ⟨rfl, hb8⟩; have HB8 := Lib.hid (HB7.out.trans (hb8.mono HB7.out.size))))
  go_ret
  exact ⟨by simp, HB8.out⟩
end Co
end Go.Proofs.Ytfkfckohajpcfaa
