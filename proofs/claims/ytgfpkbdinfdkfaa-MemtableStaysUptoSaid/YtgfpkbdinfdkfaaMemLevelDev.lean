/-
  The program's memtable: Level.
-/
import Derived.Test.YtgfpkbdinfdkfaaMemReadDev
import Derived.Test.YtgfpkbdinfdkfaaMemFromR
namespace Go.Proofs.Ytgfpkbdinfdkfaa
open Go.RowKit
set_option linter.unusedSimpArgs false
set_option linter.unusedVariables false
namespace Md
open Op (bytesLess)
open Mt (Ver VerIn VerW verV lessB mayB)
open Vs (vcs)
/-- the versions whose towers reach a level -/
def lvN (ns : List Nd) (l : Nat) : List Ver := (ns.filter fun x => decide (l < x.h)).map (·.v)
theorem lvN_skip {done a : List Nd} {l : Nat} (h : ∀ y ∈ a, y.h ≤ l) : lvN (done ++ a) l = lvN done l := by
  unfold lvN
  rw [List.filter_append, show a.filter (fun x => decide (l < x.h)) = [] from List.filter_eq_nil_iff.2 (fun y hy => by have := h y hy; simp; omega), List.append_nil]
theorem lvN_hit {done a : List Nd} {x : Nd} {l : Nat} (h : ∀ y ∈ a, y.h ≤ l) (hx : l < x.h) : lvN (done ++ (a ++ [x])) l = lvN done l ++ [x.v] := by
  rw [← List.append_assoc]
  have := lvN_skip (done := done) h
  unfold lvN at *
  rw [List.filter_append, List.map_append, this]
  simp [hx]
theorem lvN_len (ns : List Nd) (l : Nat) : (lvN ns l).length ≤ ns.length := by
  unfold lvN
  rw [List.length_map]
  exact List.length_filter_le _ _

def lenOf : Value → Nat
  | .slice _ n _ => n
  | _ => 0
theorem lenOf_own {w : World} {base m size : Nat} {e : TypeId} {v : Value} {xs : List Value} (h : w.ownsRow base e size v m xs) : lenOf v = m := by
  obtain ⟨a, cap, rfl, _⟩ := Sq.row_cases h
  rfl

set_option maxRecDepth 100000 in
set_option maxHeartbeats 4000000 in
theorem level_any {B0 tb : Nat} {ns : List Nd} (l : Nat) (w : World) (hT : TabAt B0 tb ns w) (hL : ns.length ≤ 1099511627776) (hl : l < 8) :
    Calls Try.prog 23 #[.pointer (some ⟨tb, 0, none⟩), .int .i64 (l : Int)] w fun e w' => ∃ u, e = .returned u ∧ w'.ownsRow w.heap.size 33 4 u (lvN ns l).length (vcs (lvN ns l)) ∧ Below w.heap.size w w' := by
  obtain ⟨i0, hi, hz0, hz1, hz2⟩ := info_parts info_Version
  have h0 := hT.head.cell l
  rw [hdC_link _ _ _ _ hl] at h0
  unfold lk at h0
  rw [if_pos hl] at h0
  have HTK := Lib.hid (fun W (hb : Below w.heap.size w W) => hT.kept (Sq.Kept.of_below hb))
  have hlt1 : (0 : Int) ≤ (l : Int) ∧ (l : Int) < 8 := by omega
  have HTT := Lib.hid hT
  clear hT
  go_enter Try.func23, Try.ntmps23
  go_wp2_with fail
  go_loopw [5, 6] (fun u n wr => ∃ done rest : List Nd, ns = done ++ rest ∧ n = nx l rest ∧ wr.ownsRow w.heap.size 33 4 u (lvN done l).length (vcs (lvN done l)) ∧ Below w.heap.size w wr) (fun u _ _ => ns.length - lenOf u)
  case atStart => exact ⟨[], ns, rfl, rfl, World.ownsRow_nil _ _ _ _, Below.refl _ _⟩
  case round =>
    rename_i uu _ _
    obtain ⟨done, rest, he, rfl, hown, hB⟩ := hrel
    have hbs := hB.size
    have hTr := HTK.out _ hB
    have HE := Lib.hid he
    clear he
    rcases split_at l rest with hno | ⟨a, x, s, hsr, ha, hx⟩
    · have e : nx l rest = .pointer none := by rw [← List.append_nil rest, find_cut hno]; rfl
      rw [e]
      have HF := Lib.hid (show lvN ns l = lvN done l by rw [HE.out]; exact lvN_skip hno)
      clear e hno
      go_wp2_with fail
      go_ret
      exact ⟨_, rfl, by rw [HF.out]; exact hown, hB⟩
    · have e : nx l rest = .pointer (some ⟨x.b, 0, none⟩) := by rw [hsr, find_here ha hx]
      rw [e]
      have hxn : x ∈ ns := by rw [HE.out, hsr]; simp
      obtain ⟨c0, c1, c2, c3⟩ := ver_cells hTr hxn
      have HC5 := Lib.hid (fun W (h : TabAt B0 tb ns W) => (show W.cell? ⟨x.b, 5 + l, none⟩ = some (nx l s) from by
        have ho := (show Chain W ((done ++ a) ++ x :: s) from by have := h.chain; rw [HE.out, hsr, ← List.append_assoc] at this; exact this).at_
        rw [ho.cell, ndC_link _ _ _ hl]
        unfold lk
        rw [if_pos hx]))
      have HF := Lib.hid (show lvN (done ++ (a ++ [x])) l = lvN done l ++ [x.v] from lvN_hit ha hx)
      have HE2 := Lib.hid (show ns = (done ++ (a ++ [x])) ++ s by rw [HE.out, hsr]; simp)
      have hfl := lvN_len (done ++ (a ++ [x])) l
      have hdl : (done ++ (a ++ [x])).length ≤ ns.length := by have := congrArg List.length HE2.out; rw [List.length_append] at this; omega
      have hxb := (HTT.out.foot x.b (.inr ⟨x, hxn, rfl⟩)).2
      have HOW := Lib.hid (fun W => own_any x.v W (may_wide (HTT.out.may x hxn)))
      have hlo := lenOf_own hown
      rw [HF.out, List.length_append, List.length_singleton] at hfl
      have HLO := Lib.hid hlo
      unfold verV at HOW
      clear e hsr ha hx hxn hlo
      generalize x.v = xv at *
      generalize lvN done l = F at *
      obtain ⟨k, sq, d, val⟩ := xv
      simp only at c0 c1 c2 c3 HOW
      go_wp2_with (first
        | (go_at_call 33; (with_reducible refine (HOW.out _).mono ?_); rintro e w3 ⟨rfl, hb3⟩; have hown3 := Sq.row_kept hown (Sq.Kept.of_below (T := fun _ => True) hb3) (fun _ _ => trivial); have hB3 := hB.trans (hb3.mono hbs); have hbs3 := hB3.size)
        | (at_builtin; refine wpList_append_own _ rfl _ _ 26 rfl w.heap.size 33 i0 (.agg #[.string ⟨#[]⟩, .int .u64 0, .bool false, .string ⟨#[]⟩]) 4 48 Try.underlying26 hi hz0 hz1 hz2 rfl (by decide) _ _ _ rfl (hown3.alloc _) ⟨w3.heap.size, 0, none⟩ 1 1 [_, _, _, _] rfl rfl (by simpa using Vs.cell_four_new w3 _ _ _ _ _) (by simp [Value.oneCell']) (by unfold maxLen; omega) (by omega) (by simp; omega) ?_; intro v' w4 hown' hgrow _; have hB4 := (hB3.alloc hbs3 (.cells #[.string (Cd.bs k), .int .u64 sq, .bool d, .string (Cd.bs val)] 33)).grown hgrow (by simp; omega) (fun j hj => (hown3.lt j hj).1); have c5 := HC5.out _ (HTK.out _ hB4); clear hgrow))
      go_roundw
      case rel => exact ⟨done ++ (a ++ [x]), s, HE2.out, rfl, by rw [HF.out, List.length_append, Vs.vcs_snoc]; exact hown', hB4⟩
      case measure => rw [lenOf_own hown', HLO.out]; omega
end Md
end Go.Proofs.Ytgfpkbdinfdkfaa
