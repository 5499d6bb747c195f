/-
  The walk of the law MemtablePlays.
-/
import Derived.Test.YtgfpkbdinfdkfaaMemOneC
import Derived.Test.YtgfpkbdinfdkfaaMemActs
namespace Go.Proofs.Ytgfpkbdinfdkfaa
open Go.RowKit
set_option linter.unusedSimpArgs false
set_option linter.unusedVariables false
namespace Md
open Op (bytesLess)
open Mt (Ver VerIn VerW verV lessB mayB placeB Tab vers put there spot fromL RTabO newestL nwV)
open Vs (vcs Vers)
open Ma (Act6 ActsIn6)
theorem fromL_all (L : List Ver) : fromL L [] = L := by
  unfold fromL
  rw [List.filter_eq_self]
  intro x _
  rw [Cd.bl_nil_r]
  rfl
theorem fromAll_any {B0 tb : Nat} {ns : List Nd} (w : World) (hT : TabAt B0 tb ns w) (hL : ns.length ≤ 1099511627776) :
    Calls Try.prog 10 #[.pointer (some ⟨tb, 0, none⟩), .string ⟨#[]⟩, .int .i64 0] w fun e w' => ∃ u, e = .returned u ∧ w'.ownsRow w.heap.size 33 4 u (ns.map (·.v)).length (vcs (ns.map (·.v))) ∧ Below w.heap.size w w' := by
  have := fromD_any [] 0 w hT hL (by simp) (by omega)
  rw [fromL_all, cutL_all (.inl (Int.le_refl 0))] at this
  exact this

set_option maxRecDepth 100000 in
set_option maxHeartbeats 4000000 in
theorem memtablePlays_walk (a : Option Addr) (cap b off : Nat) (L : List Act6) (w : World) (hA : ActsIn6 w a b off L) :
    Calls Try.prog 3 #[.slice a L.length cap] w fun e w' => e = .returned (.bool true) ∧ Below w.heap.size w w' := by
  obtain ⟨ha, hc, hok, hlen⟩ := hA
  have HC := Lib.hid hc
  have HOK := Lib.hid hok
  have HSM := Lib.hid (fun u u2 L W (h1 : Vers W.heap.size W u L) (h2 : Vers W.heap.size W u2 L) (h : L.length ≤ 1048576) => Mt.sameR_eq u u2 L W h1 h2 (by omega))
  clear hc hok
  go_enter Try.func3, Try.ntmps3
  go_wp2_with (go_at_call 8; (with_reducible refine (new_any _).mono ?_); rintro e w1 ⟨rfl, hT1, hb1⟩)
  have T0 : Two2 w.heap.size w.heap.size w1.heap.size (fun k => k = w1.heap.size) [] (.slice none 0 0) (.slice none 0 0) (w1.alloc (.cells #[.slice none 0 0, .slice none 0 0] 29)) :=
    ⟨hT1.kept (Sq.Kept.alloc _ _ _), ⟨Ob.Obj.new w1 _ _, World.ownsRow_nil _ _ _ _, World.ownsRow_nil _ _ _ _, fun _ => ⟨rfl, rfl⟩, rfl, fun g h => by simp [Value.ownBlock] at h, fun g h => by simp [Value.ownBlock] at h, fun k hk => by subst hk; exact ⟨hb1.size, by simp⟩⟩,
      fun k hk hs => by have := (hT1.foot k hk).2; omega, Nat.le_trans hb1.size (by simp)⟩
  have B0 := hb1.alloc hb1.size (.cells #[.slice none 0 0, .slice none 0 0] 29)
  generalize w1.alloc (.cells #[.slice none 0 0, .slice none 0 0] 29) = wz at *
  generalize w1.heap.size = rb at *
  clear hT1 hb1
  go_loopw [5] (fun i wr => ∃ (k : Nat) (S : Sq.Blocks) (ns : List Nd) (lv hv : Value), k ≤ L.length ∧ i = .int .i64 k ∧ Two2 w.heap.size w.heap.size rb S ns lv hv wr ∧ ns.length ≤ k ∧ Below w.heap.size w wr) (fun i _ => L.length - (intOf i).toNat)
  case atStart => exact ⟨0, _, [], _, _, Nat.zero_le _, rfl, T0, Nat.le_refl _, B0⟩
  case round =>
    obtain ⟨k, S, ns, lv, hv, hk, rfl, T, hns, B⟩ := hrel
    by_cases hlt : k < L.length
    · obtain ⟨rfl, hbl⟩ := ha (by omega)
      obtain ⟨q0, q1, q2, q3, q4, q5⟩ := HC.out k hlt
      have e0 := (B.cell (p := ⟨b, off + k * 6, none⟩) hbl).trans q0
      have e1 := (B.cell (p := ⟨b, off + k * 6 + 1, none⟩) hbl).trans q1
      have e2 := (B.cell (p := ⟨b, off + k * 6 + 2, none⟩) hbl).trans q2
      have e3 := (B.cell (p := ⟨b, off + k * 6 + 3, none⟩) hbl).trans q3
      have e4 := (B.cell (p := ⟨b, off + k * 6 + 4, none⟩) hbl).trans q4
      have e5 := (B.cell (p := ⟨b, off + k * 6 + 5, none⟩) hbl).trans q5
      have hx := HOK.out L[k] (List.getElem_mem hlt)
      have hone := Lib.hid (one_any L[k].kd L[k].n L[k].v wr T (by omega) hx.v hx.n)
      have hi1 : (0 : Int) ≤ (k : Int) ∧ (k : Int) < (L.length : Int) := by omega
      generalize L[k] = x at *
      obtain ⟨kd, n, v⟩ := x
      simp only at *
      unfold actV at hone
      clear q0 q1 q2 q3 q4 q5 hx
      go_wp2_with (go_at_call 9; (with_reducible refine hone.out.mono ?_); intro e w3 hp; obtain ⟨rfl, S3, ns3, lv3, hv3, T3, hn3, B3⟩ := hp)
      go_roundw
      case rel => exact ⟨k + 1, S3, ns3, lv3, hv3, by omega, by go_num, T3, by omega, B.trans B3⟩
      case measure => simp [intOf]; omega
    · obtain rfl : k = L.length := by omega
      have hnl : ns.length ≤ 1048576 := by omega
      have hvl : (ns.map (·.v)).length = ns.length := by simp
      have HVL := Lib.hid hvl
      clear hvl
      have HRV := Lib.hid (fun W (T : Two2 w.heap.size w.heap.size rb S ns lv hv W) => (show Vers W.heap.size W lv (ns.map (·.v)) from by rw [← tab_vers]; exact T.ref.tab.vers))
      go_wp2_with (first
        | (go_at_call 10; (with_reducible refine (fromAll_any _ T.dev (by omega)).mono ?_); rintro e w4 ⟨u, rfl, hr4, hb4⟩; have T4 := T.below hb4; have y0 := T4.ref.obj.cell 0; have yl := T4.ref.obj.lt; simp at y0; have hB4 := B.trans (hb4.mono B.size))
        | (go_at_call 11; (with_reducible refine (HSM.out _ _ _ _ (Vs.vers_of_own hr4) (HRV.out _ T4) (by rw [HVL.out]; exact hnl)).mono ?_); rintro e w5 ⟨rfl, hb5⟩; have hB5 := hB4.trans (hb5.mono hB4.size)))
      go_ret
      exact ⟨rfl, hB5⟩
end Md
end Go.Proofs.Ytgfpkbdinfdkfaa
