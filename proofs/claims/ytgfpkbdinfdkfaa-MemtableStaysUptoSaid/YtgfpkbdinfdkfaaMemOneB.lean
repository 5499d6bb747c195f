/-
  tapestrylaw06.one: an act done by both tables; From, Get; whatever act.
-/
import Derived.Test.YtgfpkbdinfdkfaaMemOne
import Derived.Test.YtgfpkbdinfdkfaaMemFromLaw
namespace Go.Proofs.Ytgfpkbdinfdkfaa
open Go.RowKit
set_option linter.unusedSimpArgs false
set_option linter.unusedVariables false
namespace Md
open Op (bytesLess)
open Mt (Ver VerIn VerW verV lessB mayB placeB Tab vers put there spot fromL RTabO newestL nwV)
open Vs (vcs Vers)
theorem fromD_any {B0 tb : Nat} {ns : List Nd} (key : List UInt8) (n : Int) (w : World) (hT : TabAt B0 tb ns w) (hL : ns.length ≤ 1099511627776) (hk : key.length ≤ 140737488351232) (hn : -9223372036854775808 ≤ n ∧ n ≤ 9223372036854775807) :
    Calls Try.prog 10 #[.pointer (some ⟨tb, 0, none⟩), .string (Cd.bs key), .int .i64 n] w fun e w' => ∃ u, e = .returned u ∧ w'.ownsRow w.heap.size 33 4 u (cutL (fromL (ns.map (·.v)) key) n).length (vcs (cutL (fromL (ns.map (·.v)) key) n)) ∧ Below w.heap.size w w' := by
  rw [← tab_from hT.ord hT.may]
  have hpl : (postOf ns (topV key)).length ≤ ns.length := by
    have := congrArg List.length (pre_post ns (topV key))
    rw [List.length_append] at this; omega
  refine fromLaw_any (Held B0 tb ns) Held.less (some ⟨tb, 0, none⟩) key n _ w hk hn (by rw [List.length_map]; omega) (fun x hx => ?_) (fun W R hb hR => ?_) (fun W Bt Bk hb h1 h2 => ?_)
  · obtain ⟨y, hy, rfl⟩ := List.mem_map.1 hx
    exact may_wide (hT.may y (by rw [← pre_post ns (topV key)]; exact List.mem_append_right _ hy))
  · exact ⟨ns, hT.kept (Sq.Kept.of_below hb), Grown.refl hT.rank, fun k hk hr => by have := hR k hr; have := (hT.foot k hk).2; omega, hL⟩
  · exact from1_seq key 11 (by omega) Bt Bk W (hT.kept (Sq.Kept.of_below hb)) hL hk h1 h2
theorem vers_take {B : Nat} {W : World} {a : Option Addr} {cap : Nat} {L : List Ver} (h : Vers B W (.slice a L.length cap) L) (n : Nat) (hn : n ≤ L.length) : Vers B W (.slice a n cap) (L.take n) := by
  obtain ⟨a', cap', b, off, h1, h2, h3⟩ := h
  cases h1
  refine ⟨a, cap, b, off, by rw [List.length_take, Nat.min_eq_left hn], fun h => h2 (by rw [List.length_take] at h; omega), fun j hj => ?_⟩
  rw [List.length_take] at hj
  rw [List.getElem_take]
  exact h3 j (by omega)

set_option maxRecDepth 100000 in
set_option maxHeartbeats 4000000 in
theorem one_from {B0 tb b : Nat} {S : Sq.Blocks} {ns : List Nd} {lv hw : Value} (n : Int) (v : Ver) (w : World) (hT : Two2 B0 tb b S ns lv hw w) (hL : ns.length ≤ 1048576) (hv : VerIn v) (hn : -9223372036854775808 ≤ n ∧ n ≤ 9223372036854775807) :
    Calls Try.prog 9 #[.pointer (some ⟨tb, 0, none⟩), .pointer (some ⟨b, 0, none⟩), actV 2 n v] w (OnePost B0 tb b ns w) := by
  have hB0 : Below w.heap.size w (w.alloc (.cells #[.int .i64 2, .int .i64 n, .string (Cd.bs v.key), .int .u64 v.seq, .bool v.del, .string (Cd.bs v.val)] 35)) := (Below.refl _ _).alloc (Nat.le_refl _) _
  have o0 := Ob.Obj.new w 35 [.int .i64 2, .int .i64 n, .string (Cd.bs v.key), .int .u64 v.seq, .bool v.del, .string (Cd.bs v.val)]
  have T0 := hT.below hB0
  have HP := Lib.hid (fun w' (h : Below w.heap.size w w') => OnePost.read hT h)
  have HF := Lib.hid (fun W (T : Two2 B0 tb b S ns lv hw W) => fromD_any v.key n W T.dev (by omega) (Nat.le_trans hv.1 (by omega)) hn)
  have HR := Lib.hid (fun W (T : Two2 B0 tb b S ns lv hw W) => (show Calls Try.prog 27 #[lv, .string (Cd.bs v.key)] W fun e w' => ∃ u, e = .returned u ∧ w'.ownsRow W.heap.size 33 4 u (fromL (ns.map (·.v)) v.key).length (vcs (fromL (ns.map (·.v)) v.key)) ∧ Below W.heap.size W w' from by
    have := Mt.fromR_any lv (vers (tabOf ns)) v.key W T.ref.tab.vers (by rw [tab_vers, List.length_map]; omega) hv.1
    rwa [tab_vers] at this))
  have hll : (fromL (ns.map (·.v)) v.key).length ≤ 1048576 := by
    unfold fromL
    have := List.length_filter_le (fun x : Ver => !bytesLess x.key v.key) (ns.map (·.v))
    rw [List.length_map] at this
    omega
  have HSM := Lib.hid (fun u u2 L W (h1 : Vers W.heap.size W u L) (h2 : Vers W.heap.size W u2 L) (h : L.length ≤ 1048576) => Mt.sameR_eq u u2 L W h1 h2 (by omega))
  generalize fromL (ns.map (·.v)) v.key = LL at *
  obtain ⟨hn1, hn2⟩ := hn
  unfold actV
  show Calls _ _ _ _ (fun e w' => OnePost B0 tb b ns w e w')
  by_cases hc : 0 < n ∧ n < (LL.length : Int)
  · obtain ⟨m, rfl⟩ : ∃ m : Nat, n = (m : Int) := ⟨n.toNat, by omega⟩
    obtain ⟨hm1, hm2⟩ := hc
    have HCU := Lib.hid (show cutL LL (m : Int) = LL.take m by unfold cutL; rw [if_pos hm1]; rfl)
    have hm3 : m < LL.length := by omega
    have hm4 : 0 < m := by omega
    go_enter Try.func9, Try.ntmps9
    go_wp2_with (go_at_call 10; (with_reducible refine (HF.out _ T0).mono ?_); rintro e w1 ⟨u, rfl, hr1, hb1⟩; have hB1 := hB0.trans (hb1.mono hB0.size); have T1 := T0.below hb1; have o1 := o0.below hb1; have x1 := o1.cell 1; have x2 := o1.cell 2; have y0 := T1.ref.obj.cell 0; have yl := T1.ref.obj.lt; simp at x1 x2 y0)
    go_still_tail 7, (by kernel_rfl)
    change wpList _ _ _ _ _ (World.drew _)
    have T2 := T1.kept (Sq.Kept.drew _ _)
    go_wp2_with (first
      | (go_at_call 27; (with_reducible refine (HR.out _ T2).mono ?_); rintro e w2 ⟨u2, rfl, hr2, hb2⟩; have hB2 := hB1.drew.trans (hb2.mono hB1.size); have o2 := Ob.Obj.below o1.drew hb2; have z1 := o2.cell 1; simp at z1; obtain ⟨a2, c2, rfl, ha2⟩ := Sq.row_cases hr2; obtain ⟨g2, rfl, hg1, hg2⟩ := ha2 (by omega); obtain ⟨hq1, hq2⟩ := Mt.row_cap hr2; have hv1 := (Vs.vers_of_own hr1).grow (W' := w2) (B' := w2.heap.size) ((Below.refl w1.heap.size w1).drew.trans hb2) hb2.size; have hv2 := vers_take (Vs.vers_of_own hr2) m (by omega); rw [HCU.out] at hv1; have HV1 := Lib.hid hv1; have HV2 := Lib.hid hv2; unfold maxLen at hq2; clear hv1 hv2 hr1 hr2)
      | (go_at_call 11; (with_reducible refine (HSM.out _ _ _ _ HV1.out HV2.out (by rw [List.length_take]; omega)).mono ?_); rintro e w3 ⟨rfl, hb3⟩; have hB3 := hB2.trans (hb3.mono hB2.size)))
    refine bodyPost_ret (v := .bool true) (by simp [results, Try.results9, go_sem]) rfl ?_
    exact HP.out _ hB3
  · have HCU := Lib.hid (show cutL LL n = LL by
      unfold cutL
      by_cases h0 : 0 < n
      · rw [if_pos h0, List.take_of_length_le (by omega)]
      · rw [if_neg h0])
    have hd : (decide (0 < n) = false ∧ ¬ 0 < n) ∨ (decide (0 < n) = true ∧ decide (n < (LL.length : Int)) = false ∧ 0 < n ∧ ¬ n < (LL.length : Int)) := by
      by_cases h0 : 0 < n
      · right; refine ⟨decide_eq_true h0, decide_eq_false (by omega), h0, by omega⟩
      · left; exact ⟨decide_eq_false h0, h0⟩
    clear hc
    rcases hd with ⟨d1, d2⟩ | ⟨d1, d2, d3, d4⟩
    all_goals
      go_enter Try.func9, Try.ntmps9
      go_wp2_with (go_at_call 10; (with_reducible refine (HF.out _ T0).mono ?_); rintro e w1 ⟨u, rfl, hr1, hb1⟩; have hB1 := hB0.trans (hb1.mono hB0.size); have T1 := T0.below hb1; have o1 := o0.below hb1; have x1 := o1.cell 1; have x2 := o1.cell 2; have y0 := T1.ref.obj.cell 0; have yl := T1.ref.obj.lt; simp at x1 x2 y0)
      go_still_tail 7, (by kernel_rfl)
      change wpList _ _ _ _ _ (World.drew _)
      have T2 := T1.kept (Sq.Kept.drew _ _)
      go_wp2_with (first
        | (go_at_call 27; (with_reducible refine (HR.out _ T2).mono ?_); rintro e w2 ⟨u2, rfl, hr2, hb2⟩; have hB2 := hB1.drew.trans (hb2.mono hB1.size); have o2 := Ob.Obj.below o1.drew hb2; have z1 := o2.cell 1; simp at z1; have hv2 := Vs.vers_of_own hr2; obtain ⟨a2, c2, rfl, ha2⟩ := Sq.row_cases hr2; have hv1 := (Vs.vers_of_own hr1).grow (W' := w2) (B' := w2.heap.size) ((Below.refl w1.heap.size w1).drew.trans hb2) hb2.size; rw [HCU.out] at hv1; have HV1 := Lib.hid hv1; have HV2 := Lib.hid hv2; clear hv1 hv2 hr1 hr2)
        | (go_at_call 11; (with_reducible refine (HSM.out _ _ _ _ HV1.out HV2.out (by omega)).mono ?_); rintro e w3 ⟨rfl, hb3⟩; have hB3 := hB2.trans (hb3.mono hB2.size)))
      refine bodyPost_ret (v := .bool true) (by simp [results, Try.results9, go_sem]) rfl ?_
      exact HP.out _ hB3
end Md
end Go.Proofs.Ytgfpkbdinfdkfaa
