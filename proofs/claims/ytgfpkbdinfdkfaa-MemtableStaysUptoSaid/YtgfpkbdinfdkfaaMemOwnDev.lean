/-
  The program's memtable: which version may be; a version in memory of its own; what is newest.
-/
import Derived.Test.YtgfpkbdinfdkfaaMemLook
import Derived.Test.YtgfpkbdinfdkfaaCodecClone
import Derived.Deep.RegionWith
import Derived.Deep.DeepCutAuto
import Derived.Deep.Cut
import Derived.Deep.CutRange
import Derived.Deep.CutBlock
namespace Go.Proofs.Ytgfpkbdinfdkfaa
open Go.RowKit
set_option linter.unusedSimpArgs false
set_option linter.unusedVariables false
namespace Md
open Op (bytesLess)
open Mt (Ver VerIn VerW verV lessB mayB)

set_option maxRecDepth 100000 in
set_option maxHeartbeats 4000000 in
theorem mayBe_any (v : Ver) (w : World) (hv : VerW v) :
    Calls Try.prog 31 #[verV v] w fun e w' => e = .returned (.bool (mayB v)) ∧ Below w.heap.size w w' := by
  obtain ⟨k, q, d, s⟩ := v
  obtain ⟨h1, h2, h3, h4⟩ := hv
  simp only at h1 h2 h3 h4
  have hk : (Cd.bs k).size = k.length := rfl
  have hs : (Cd.bs s).size = s.length := rfl
  have hB : Below w.heap.size w (w.alloc (.cells #[.string (Cd.bs k), .int .u64 q, .bool d, .string (Cd.bs s)] 33)) := (Below.refl _ _).alloc (Nat.le_refl _) _
  unfold verV
  simp only
  by_cases a1 : k.length < 1
  · have e : mayB ⟨k, q, d, s⟩ = false := by unfold mayB; simp only; rw [show decide (1 ≤ k.length) = false from decide_eq_false (by omega)]; rfl
    rw [e]; clear e
    go_enter Try.func31, Try.ntmps31
    go_wp2_with fail
    go_ret
    exact ⟨rfl, hB⟩
  · by_cases a2 : 96 < k.length
    · have e : mayB ⟨k, q, d, s⟩ = false := by unfold mayB; simp only; rw [show decide (k.length ≤ 96) = false from decide_eq_false (by omega)]; simp
      rw [e]; clear e
      go_enter Try.func31, Try.ntmps31
      go_wp2_with fail
      go_ret
      exact ⟨rfl, hB⟩
    · by_cases a3 : q < 1
      · have e : mayB ⟨k, q, d, s⟩ = false := by unfold mayB; simp only; rw [show decide (1 ≤ q) = false from decide_eq_false (by omega)]; simp
        rw [e]; clear e
        go_enter Try.func31, Try.ntmps31
        go_wp2_with fail
        go_ret
        exact ⟨rfl, hB⟩
      · by_cases a4 : 1125899906842624 < q
        · have e : mayB ⟨k, q, d, s⟩ = false := by unfold mayB; simp only; rw [show decide (q ≤ 1125899906842624) = false from decide_eq_false (by omega)]; simp
          rw [e]; clear e
          go_enter Try.func31, Try.ntmps31
          go_wp2_with fail
          go_ret
          exact ⟨rfl, hB⟩
        · have e : mayB ⟨k, q, d, s⟩ = (decide (s.length ≤ 16384) && (!d || decide (s = []))) := by
            unfold mayB; simp only
            rw [show decide (1 ≤ k.length) = true from decide_eq_true (by omega), show decide (k.length ≤ 96) = true from decide_eq_true (by omega), show decide (1 ≤ q) = true from decide_eq_true (by omega), show decide (q ≤ 1125899906842624) = true from decide_eq_true (by omega)]
            rfl
          rw [e]; clear e
          cases d with
          | false =>
            by_cases a5 : s.length ≤ 16384
            · rw [show decide (s.length ≤ 16384) = true from decide_eq_true a5]
              have a5i : decide ((s.length : Int) ≤ 16384) = true := decide_eq_true (by omega)
              go_enter Try.func31, Try.ntmps31
              go_wp2_with fail
              go_ret
              exact ⟨by simp <;> omega, hB⟩
            · rw [show decide (s.length ≤ 16384) = false from decide_eq_false a5]
              have a5i : decide ((s.length : Int) ≤ 16384) = false := decide_eq_false (by omega)
              go_enter Try.func31, Try.ntmps31
              go_wp2_with fail
              go_ret
              exact ⟨by simp <;> omega, hB⟩
          | true =>
            by_cases a5 : s = []
            · subst a5
              go_enter Try.func31, Try.ntmps31
              go_wp2_with fail
              go_ret
              exact ⟨rfl, hB⟩
            · rw [show decide (s = []) = false from decide_eq_false a5]
              go_enter Try.func31, Try.ntmps31
              go_wp2_with fail
              go_ret
              exact ⟨by simp [a5], hB⟩

set_option maxRecDepth 100000 in
set_option maxHeartbeats 4000000 in
theorem own_any (v : Ver) (w : World) (hv : VerW v) :
    Calls Try.prog 33 #[verV v] w fun e w' => e = .returned (verV v) ∧ Below w.heap.size w w' := by
  obtain ⟨k, q, d, s⟩ := v
  obtain ⟨h1, h2, h3, h4⟩ := hv
  simp only at h1 h2 h3 h4
  have hk : (Cd.bs k).size = k.length := rfl
  have hs : (Cd.bs s).size = s.length := rfl
  have C1 := Lib.hid (fun W => clone_any (Cd.bs k) W (by rw [hk]; omega))
  have C2 := Lib.hid (fun W => clone_any (Cd.bs s) W (by rw [hs]; omega))
  clear hk hs
  unfold verV
  simp only
  go_enter Try.func33, Try.ntmps33
  go_wp2_with fail
  go_cut [] (fun wx => Below w.heap.size w wx ∧ Ob.Obj wx w.heap.size 33 [.string (Cd.bs k), .int .u64 q, .bool d, .string (Cd.bs s)] ∧ Ob.Obj wx (w.heap.size + 1) 33 [.string ⟨#[]⟩, .int .u64 0, .bool false, .string ⟨#[]⟩])
  case first =>
    have hB0 : Below w.heap.size w ((w.alloc (.cells #[.string (Cd.bs k), .int .u64 q, .bool d, .string (Cd.bs s)] 33)).alloc (.cells #[.string ⟨#[]⟩, .int .u64 0, .bool false, .string ⟨#[]⟩] 33)) := ((Below.refl _ _).alloc (Nat.le_refl _) _).alloc (by simp) _
    have o0 := (Ob.Obj.new w 33 [.string (Cd.bs k), .int .u64 q, .bool d, .string (Cd.bs s)]).alloc (.cells #[.string ⟨#[]⟩, .int .u64 0, .bool false, .string ⟨#[]⟩] 33)
    have r0 : Ob.Obj ((w.alloc (.cells #[.string (Cd.bs k), .int .u64 q, .bool d, .string (Cd.bs s)] 33)).alloc (.cells #[.string ⟨#[]⟩, .int .u64 0, .bool false, .string ⟨#[]⟩] 33)) (w.heap.size + 1) 33 [.string ⟨#[]⟩, .int .u64 0, .bool false, .string ⟨#[]⟩] := by
      have := Ob.Obj.new (w.alloc (.cells #[.string (Cd.bs k), .int .u64 q, .bool d, .string (Cd.bs s)] 33)) 33 [.string ⟨#[]⟩, .int .u64 0, .bool false, .string ⟨#[]⟩]
      simpa using this
    generalize (w.alloc (.cells #[.string (Cd.bs k), .int .u64 q, .bool d, .string (Cd.bs s)] 33)).alloc (.cells #[.string ⟨#[]⟩, .int .u64 0, .bool false, .string ⟨#[]⟩] 33) = w0 at *
    have x0 := o0.cell 0
    have x1 := o0.cell 1
    have x2 := o0.cell 2
    have x3 := o0.cell 3
    have f0 := o0.frozen 0
    have f3 := o0.frozen 3
    have hz := o0.lt
    simp at x0 x1 x2 x3
    have ro0 := r0
    go_region_with (first
      | (go_at_call 36; (with_reducible refine (C1.out _).mono ?_); rintro e w1 ⟨rfl, hb1⟩; have o1 := Ob.Obj.below (by exact o0) hb1; have r1 := Ob.Obj.below (by exact r0) hb1; have x10 := o1.cell 0; have x13 := o1.cell 3; have f10 := o1.frozen 0; have f13 := o1.frozen 3; have hz1 := o1.lt; simp at x10 x13; have hB1 := Below.trans (b := _) (by first | exact hB0 | exact hB0.drew) (hb1.mono (by exact hB0.size)))
      | (go_at_call 36; (with_reducible refine (C2.out _).mono ?_); rintro e w2 ⟨rfl, hb2⟩; have o2 := Ob.Obj.below (by exact o1) hb2; have r2 := Ob.Obj.below (by exact r1) hb2; have x20 := o2.cell 0; have x23 := o2.cell 3; have f20 := o2.frozen 0; have f23 := o2.frozen 3; have hz2 := o2.lt; simp at x20 x23; have hB2 := Below.trans (b := _) (by first | exact hB1 | exact hB1.drew) (hb2.mono (by exact hB1.size))))
    all_goals (try go_wp2_with fail)
    all_goals go_meet
    all_goals exact ⟨(hB2.setCell (p := ⟨w.heap.size, 0, none⟩) (Nat.le_refl _) _).setCell (p := ⟨w.heap.size, 3, none⟩) (Nat.le_refl _) _, (o2.set 0 _).set 3 _, (r2.other (p := ⟨w.heap.size, 0, none⟩) (by simp) _).other (p := ⟨w.heap.size, 3, none⟩) (by simp) _⟩
  case rest =>
    obtain ⟨hBc, oc, rc⟩ := hcut
    have x0 := oc.cell 0
    have x1 := oc.cell 1
    have x2 := oc.cell 2
    have x3 := oc.cell 3
    have y0 := rc.cell 0
    have y1 := rc.cell 1
    have y2 := rc.cell 2
    have y3 := rc.cell 3
    have g0 := rc.frozen 0
    have g1 := rc.frozen 1
    have g2 := rc.frozen 2
    have g3 := rc.frozen 3
    have hz := rc.lt
    simp at x0 x1 x2 x3 y0 y1 y2 y3
    go_wp2_with fail
    exact bodyPost_ret (v := .agg #[.string (Cd.bs k), .int .u64 q, .bool d, .string (Cd.bs s)]) (by simp [results, Try.results33, go_sem, y0, y1, y2, y3, g0, g1, g2, g3, hz]) rfl ⟨rfl, (((hBc.setCell (p := ⟨w.heap.size + 1, 0, none⟩) (by simp) _).setCell (p := ⟨w.heap.size + 1, 1, none⟩) (by simp) _).setCell (p := ⟨w.heap.size + 1, 2, none⟩) (by simp) _).setCell (p := ⟨w.heap.size + 1, 3, none⟩) (by simp) _⟩
end Md
end Go.Proofs.Ytgfpkbdinfdkfaa
