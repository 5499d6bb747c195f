/-
  alike: both disks stand alike.
-/
import Derived.Test.YtdidcopfkjnkdaaBlockTwo
namespace Go.Proofs.Ytdidcopfkjnkdaa
open Go.RowKit
set_option linter.unusedSimpArgs false
set_option linter.unusedVariables false
variable {DevAt : Nat → Nat → Sq.Blocks → Bl.St → World → Prop}

set_option maxRecDepth 100000 in
set_option maxHeartbeats 4000000 in
theorem alike_any (D : DevOk DevAt) {B0 bd br : Nat} {Sd Sr : Sq.Blocks} {σ : Bl.St} {W : World} (h : Two DevAt B0 bd br Sd Sr σ σ W) (hn : Bnd σ) :
    Calls Try.prog 15 #[.pointer (some ⟨bd, 0, none⟩), .pointer (some ⟨br, 0, none⟩)] W fun e w' => e = .returned (.bool true) ∧ ∃ Sd' Sr', Two DevAt B0 bd br Sd' Sr' σ σ w' ∧ Below B0 W w' := by
  have hle : ∀ x ∈ σ.wait.map (·.1), x ≤ 16384 := fun x hx => by
    obtain ⟨y, hy, rfl⟩ := List.mem_map.1 hx
    have := (hn.ok.inW y hy).1
    have := hn.ok.blocks
    omega
  have hml : (σ.wait.map (·.1)).length ≤ 1073741824 := by rw [List.length_map]; exact hn.wait
  generalize hP : σ.wait.map (·.1) = P at hle hml
  have HP := Lib.hid hP
  clear hP
  have hbl := hn.ok.blocks
  have ha := hn.acts
  have he := hn.epochs
  go_enter Try.func15, Try.ntmps15
  go_wp2_with (first
    | (go_at_call 20; refine (D.up h.dev hn).mono ?_; rintro e w1 ⟨rfl, S1, hd1, st1⟩; obtain ⟨T1, B1⟩ := h.stepD D hd1 st1)
    | (go_at_call 24; refine (D.blocks T1.dev hn).mono ?_; rintro e w2 ⟨rfl, S2, hd2, st2⟩; obtain ⟨T2, B2⟩ := T1.stepD D hd2 st2)
    | (go_at_call 23; refine (D.acts T2.dev hn).mono ?_; rintro e w3 ⟨rfl, S3, hd3, st3⟩; obtain ⟨T3, B3⟩ := T2.stepD D hd3 st3)
    | (go_at_call 25; refine (D.epoch T3.dev hn).mono ?_; rintro e w4 ⟨rfl, S4, hd4, st4⟩; obtain ⟨T4, B4⟩ := T3.stepD D hd4 st4)
    | (go_at_call 21; refine (D.pending T4.dev hn).mono ?_; rintro e w5 ⟨v5, S5, rfl, hd5, st5, own5, fr5⟩; obtain ⟨T5, B5⟩ := T4.stepD D hd5 st5; rw [HP.out] at own5)
    | (go_at_call 36; refine (refPending_any T5.ref hn.wait).mono ?_; rintro e w6 ⟨v6, rfl, own6, b6⟩; have T6 := T5.below D b6; have own5' := Sq.row_kept own5 (Sq.Kept.of_below (T := fun _ => True) b6) (fun _ _ => trivial); rw [HP.out] at own6)
    | (go_at_call 35; refine (sameInts_any P w6 own5' own6 hml hle).mono ?_; rintro e w7 ⟨rfl, b7⟩; have T7 := T6.below D b7; have own7 := Sq.row_kept own5' (Sq.Kept.of_below (T := fun _ => True) b7) (fun _ _ => trivial)))
  have hB0 := h.base
  have BB : Below B0 W w7 := ((((((B1.trans B2).trans B3).trans B4).trans B5).trans (b6.mono T5.base)).trans (b7.mono T6.base))
  have hg5 : ∀ g, v5.ownBlock = some g → ¬ S5 g ∧ ¬ Sr g ∧ B0 ≤ g := fun g hg => by
    have h1 := Ob.row_lt own5 hg
    refine ⟨fr5 g hg, fun hs => ?_, Nat.le_trans T4.base h1.1⟩
    have := (T4.ref.lo g hs).2
    omega
  obtain ⟨ao, cap, rfl, hgo⟩ := Sq.row_cases own7
  have H5 := Lib.hid hg5
  have H7 := Lib.hid own7
  clear own5 own5' own6 own7 B1 B2 B3 B4 B5 hd1 hd2 hd3 hd4 hd5 st1 st2 st3 st4 st5 T1 T2 T3 T4 T5 T6 b6 b7 fr5 hg5
  go_loopw [11] (fun i wr => ∃ (k : Nat) (xs : List Value), k ≤ P.length ∧ i = .int .i64 k ∧ wr.ownsRow w4.heap.size 3 1 (.slice ao P.length cap) P.length xs ∧ Two DevAt B0 bd br S5 Sr σ σ wr ∧ Below B0 W wr) (fun i _ => P.length - (intOf i).toNat)
  case atStart => exact ⟨0, _, Nat.zero_le _, rfl, H7.out, T7, BB⟩
  case round =>
    obtain ⟨k, xs, hk, rfl, own, T, B⟩ := hrel
    by_cases hlt : k < P.length
    · obtain ⟨g, rfl, _, _⟩ := hgo (by omega)
      obtain ⟨n1, n2, n3⟩ := H5.out g rfl
      have hxl := own.1
      obtain ⟨cv, hcell⟩ : ∃ cv, wr.cell? ⟨g, k, none⟩ = some cv := ⟨_, (own.cellAt k (by omega)).trans (List.getElem?_eq_getElem (by omega))⟩
      have hfr := own.frozenAt k
      have hi1 : (0 : Int) ≤ (k : Int) ∧ (k : Int) < (P.length : Int) := by omega
      have hst := (World.ownsRow.stored own k (.int .i64 (-1))).1
      have hT : Two DevAt B0 bd br S5 Sr σ σ (wr.setCell ⟨g, k, none⟩ (.int .i64 (-1))) := T.kept D (Sq.Kept.setCell _ _ (fun hs => hs.elim n1 n2))
      have hBB : Below B0 W (wr.setCell ⟨g, k, none⟩ (.int .i64 (-1))) := B.setCell (p := ⟨g, k, none⟩) n3 _
      clear T B own hxl
      go_wp2_with fail
      go_roundw
      case rel => exact ⟨k + 1, _, by omega, by go_num, hst, hT, hBB⟩
      case measure => simp [intOf]; omega
    · obtain rfl : k = P.length := by omega
      obtain ⟨sv, wv, hr⟩ := id T.ref
      obtain ⟨as1, caps, rfl, _⟩ := Sq.row_cases hr.safe
      have c0 := hr.obj.cell 0
      have c2 := hr.obj.cell 2
      have c4 := hr.obj.cell 4
      have c5 := hr.obj.cell 5
      simp [refCells] at c0 c2 c4 c5
      have HT := Lib.hid T
      clear T hr own
      go_wp2_with fail
      go_ret
      exact ⟨rfl, S5, Sr, HT.out, B⟩
end Go.Proofs.Ytdidcopfkjnkdaa
