/-
  tapestrylaw06.one: an act done by both tables; Get; whatever act.
-/
import Derived.Test.YtgfpkbdinfdkfaaMemOneB
namespace Go.Proofs.Ytgfpkbdinfdkfaa
open Go.RowKit
set_option linter.unusedSimpArgs false
set_option linter.unusedVariables false
namespace Md
open Op (bytesLess)
open Mt (Ver VerIn VerW verV lessB mayB placeB Tab vers put there spot fromL RTabO newestL nwV)
open Vs (vcs Vers)

set_option maxRecDepth 100000 in
set_option maxHeartbeats 8000000 in
theorem one_get {B0 tb b : Nat} {S : Sq.Blocks} {ns : List Nd} {lv hw : Value} (n : Int) (v : Ver) (w : World) (hT : Two2 B0 tb b S ns lv hw w) (hL : ns.length ≤ 1048576) (hv : VerIn v) (hn : -9223372036854775808 ≤ n ∧ n ≤ 9223372036854775807) :
    Calls Try.prog 9 #[.pointer (some ⟨tb, 0, none⟩), .pointer (some ⟨b, 0, none⟩), actV 1 n v] w (OnePost B0 tb b ns w) := by
  have hB0 : Below w.heap.size w (w.alloc (.cells #[.int .i64 1, .int .i64 n, .string (Cd.bs v.key), .int .u64 v.seq, .bool v.del, .string (Cd.bs v.val)] 35)) := (Below.refl _ _).alloc (Nat.le_refl _) _
  have o0 := Ob.Obj.new w 35 [.int .i64 1, .int .i64 n, .string (Cd.bs v.key), .int .u64 v.seq, .bool v.del, .string (Cd.bs v.val)]
  have T0 := hT.below hB0
  have HP := Lib.hid (fun w' (h : Below w.heap.size w w') => OnePost.read hT h)
  have HG := Lib.hid (fun W (T : Two2 B0 tb b S ns lv hw W) => get_any v.key v.seq W T.dev (by omega) (Nat.le_trans hv.1 (by omega)) hv.2.2)
  have HN := Lib.hid (fun W (T : Two2 B0 tb b S ns lv hw W) => (show Calls Try.prog 26 #[lv, .string (Cd.bs v.key), .int .u64 v.seq] W fun e w' => e = .returned (nwV (newestL (ns.map (·.v)) v.key v.seq)) ∧ Below W.heap.size W w' from by
    have := Mt.newestR_any lv (vers (tabOf ns)) v.key v.seq W T.ref.tab.vers (by rw [tab_vers]; exact vers_mem hT.dev.may) (by rw [tab_vers, List.length_map]; omega) hv.1
    rwa [tab_vers] at this))
  generalize newestL (ns.map (·.v)) v.key v.seq = R at *
  unfold actV
  show Calls _ _ _ _ (fun e w' => OnePost B0 tb b ns w e w')
  obtain ⟨r0, r1, r2, r3, bb, e⟩ : ∃ (r0 : ByteArray) (r1 : Int) (r2 : Bool) (r3 : ByteArray) (bb : Bool), nwV R = .tuple #[.agg #[.string r0, .int .u64 r1, .bool r2, .string r3], .bool bb] := by
    cases R with
    | none => exact ⟨_, _, _, _, _, rfl⟩
    | some x => exact ⟨_, _, _, _, _, rfl⟩
  rw [e] at HG HN
  clear e
  go_enter Try.func9, Try.ntmps9
  go_upto_region 8 with (go_at_call 14; (with_reducible refine (HG.out _ T0).mono ?_); rintro e w1 ⟨rfl, hb1⟩; have hB1 := hB0.trans (hb1.mono hB0.size); have T1 := (T0.below hb1).kept (Sq.Kept.alloc _ _ (.cells #[.string r0, .int .u64 r1, .bool r2, .string r3] 33)); have o1 := (o0.below hb1).alloc (.cells #[.string r0, .int .u64 r1, .bool r2, .string r3] 33); have rr1 := Ob.Obj.new w1 33 [.string r0, .int .u64 r1, .bool r2, .string r3])
  have hBA := hB1.alloc hB1.size (.cells #[.string r0, .int .u64 r1, .bool r2, .string r3] 33)
  have hRne : w1.heap.size < (w1.alloc (.cells #[.string r0, .int .u64 r1, .bool r2, .string r3] 33)).heap.size := rr1.lt
  generalize w1.alloc (.cells #[.string r0, .int .u64 r1, .bool r2, .string r3] 33) = wA at *
  generalize w1.heap.size = b9 at *
  have x2 := o1.cell 2
  have x3 := o1.cell 3
  have y0 := T1.ref.obj.cell 0
  have yl := T1.ref.obj.lt
  have ol := o1.lt
  simp at x2 x3 y0
  clear hb1 hB1
  go_cut [11, 12] (fun a c wx => ∃ ab, a = .pointer (some ⟨ab, 0, none⟩) ∧ c = .bool bb ∧ Below w.heap.size w wx ∧ Ob.Obj wx ab 33 [.string r0, .int .u64 r1, .bool r2, .string r3] ∧ Ob.Obj wx b9 33 [.string r0, .int .u64 r1, .bool r2, .string r3])
  case first =>
    go_region_with (first
      | (go_at_call 26; (with_reducible refine (HN.out _ ?_).mono ?_); exact T1.kept (by first | exact Sq.Kept.refl _ _ | exact Sq.Kept.drew _ _ | exact Sq.Kept.alloc _ _ _ | exact (Sq.Kept.drew _ _).trans (Sq.Kept.alloc _ _ _) | exact (Sq.Kept.alloc _ _ _).trans (Sq.Kept.drew _ _)); rintro e w2 ⟨rfl, hb2⟩; have oN := Ob.Obj.below (b := wA.heap.size) (by exact Ob.Obj.new wA 33 [.string ⟨#[]⟩, .int .u64 0, .bool false, .string ⟨#[]⟩]) hb2; have n0 := oN.cell 0; have n1 := oN.cell 1; have n2 := oN.cell 2; have n3 := oN.cell 3; have f0 := oN.frozen 0; have f1 := oN.frozen 1; have f2 := oN.frozen 2; have f3 := oN.frozen 3; have nl := oN.lt; simp at n0 n1 n2 n3; have hB2 := Below.trans (b := _) (by first | exact hBA | exact hBA.drew | exact hBA.alloc hBA.size _ | exact (hBA.alloc hBA.size _).drew | exact hBA.drew.alloc hBA.size _) (hb2.mono (by first | exact hBA.size | (simp; have := hBA.size; omega))); have rr2 := Ob.Obj.below (by first | exact rr1 | exact rr1.alloc _) hb2)
      | (go_at_call 26; (with_reducible refine (HN.out _ ?_).mono ?_); exact T1.kept (by first | exact Sq.Kept.refl _ _ | exact Sq.Kept.drew _ _ | exact Sq.Kept.alloc _ _ _ | exact (Sq.Kept.drew _ _).trans (Sq.Kept.alloc _ _ _) | exact (Sq.Kept.alloc _ _ _).trans (Sq.Kept.drew _ _)); rintro e w2 ⟨rfl, hb2⟩; have hB2 := Below.trans (b := _) (by first | exact hBA | exact hBA.drew | exact hBA.alloc hBA.size _ | exact (hBA.alloc hBA.size _).drew | exact hBA.drew.alloc hBA.size _) (hb2.mono (by first | exact hBA.size | (simp; have := hBA.size; omega))); have rr2 := Ob.Obj.below (by first | exact rr1 | exact rr1.alloc _) hb2))
    all_goals (try go_wp2_with fail)
    all_goals go_meet
    all_goals (first
      | (refine ⟨w2.heap.size, rfl, rfl, ?_⟩; exact ⟨hB2.alloc hB2.size _, Ob.Obj.new w2 33 [.string r0, .int .u64 r1, .bool r2, .string r3], rr2.alloc _⟩)
      | (refine ⟨wA.heap.size, rfl, rfl, ?_⟩; exact ⟨(((hB2.setCell (p := ⟨wA.heap.size, 0, none⟩) hBA.size _).setCell (p := ⟨wA.heap.size, 1, none⟩) hBA.size _).setCell (p := ⟨wA.heap.size, 2, none⟩) hBA.size _).setCell (p := ⟨wA.heap.size, 3, none⟩) hBA.size _, (((oN.set 0 _).set 1 _).set 2 _).set 3 _, (((rr2.other (p := ⟨wA.heap.size, 0, none⟩) (Nat.ne_of_lt hRne) _).other (p := ⟨wA.heap.size, 1, none⟩) (Nat.ne_of_lt hRne) _).other (p := ⟨wA.heap.size, 2, none⟩) (Nat.ne_of_lt hRne) _).other (p := ⟨wA.heap.size, 3, none⟩) (Nat.ne_of_lt hRne) _⟩))
  obtain ⟨ab, rfl, rfl, hBc, oc, rc⟩ := hcut
  have p0 := oc.cell 0
  have p1 := oc.cell 1
  have p2 := oc.cell 2
  have p3 := oc.cell 3
  have q0 := rc.cell 0
  have q1 := rc.cell 1
  have q2 := rc.cell 2
  have q3 := rc.cell 3
  simp at p0 p1 p2 p3 q0 q1 q2 q3
  go_wp2_with fail
  refine bodyPost_ret (v := .bool true) (by simp [results, Try.results9, go_sem]) rfl ?_
  exact HP.out _ hBc
/-- WHATEVER ACT -/
theorem one_any {B0 tb b : Nat} {S : Sq.Blocks} {ns : List Nd} {lv hw : Value} (kd n : Int) (v : Ver) (w : World) (hT : Two2 B0 tb b S ns lv hw w) (hL : ns.length ≤ 1048576) (hv : VerIn v) (hn : -9223372036854775808 ≤ n ∧ n ≤ 9223372036854775807) :
    Calls Try.prog 9 #[.pointer (some ⟨tb, 0, none⟩), .pointer (some ⟨b, 0, none⟩), actV kd n v] w (OnePost B0 tb b ns w) := by
  by_cases h0 : kd = 0
  · subst h0; exact one_add n v w hT hL hv hn
  by_cases h1 : kd = 1
  · subst h1; exact one_get n v w hT hL hv hn
  by_cases h2 : kd = 2
  · subst h2; exact one_from n v w hT hL hv hn
  by_cases h3 : kd = 3
  · subst h3; exact one_len n v w hT hL hv hn
  by_cases h4 : kd = 4
  · subst h4; exact one_level n v w hT hL hv hn
  exact one_steps kd n v w hT hL hv hn (by omega)
end Md
end Go.Proofs.Ytgfpkbdinfdkfaa
