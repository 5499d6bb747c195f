/-
  The document's table of versions (tapestryref06.Table): Level, Steps.
-/
import Derived.Test.YtgfpkbdinfdkfaaMemFromR
import Derived.Test.YtgfpkbdinfdkfaaObj
namespace Go.Proofs.Ytgfpkbdinfdkfaa
open Go.RowKit
set_option linter.unusedSimpArgs false
set_option linter.unusedVariables false
namespace Mt
open Op (bytesLess)
open Vs (Vers At vcs)
abbrev hgts (t : Tab) : List Int := t.map fun x => (x.2 : Int)
/-- the document's table, in block b -/
structure RTab (W : World) (b : Nat) (lv hv : Value) (t : Tab) : Prop where
  obj : Ob.Obj W b 29 [lv, hv]
  vers : Vers W.heap.size W lv (vers t)
  ints : Fi.Ints W.heap.size W hv (hgts t)
theorem level_take (t : Tab) (l : Int) (q : Nat) (h : q < t.length) : level (t.take (q + 1)) l = level (t.take q) l ++ (if 0 ≤ l ∧ l < (t[q].2 : Int) then [t[q].1] else []) := by
  unfold level
  rw [List.take_succ_eq_append_getElem h, List.filter_append, List.map_append]
  by_cases hb : 0 ≤ l ∧ l < (t[q].2 : Int) <;> simp [hb]
theorem level_len (t : Tab) (l : Int) (q : Nat) : (level (t.take q) l).length ≤ q := by
  unfold level
  rw [List.length_map]
  have := List.length_filter_le (fun x : Ver × Nat => decide (0 ≤ l ∧ l < (x.2 : Int))) (t.take q)
  have h2 : (t.take q).length ≤ q := by simp; omega
  omega

set_option maxRecDepth 100000 in
set_option maxHeartbeats 4000000 in
theorem levelR_any (b : Nat) (lv hv : Value) (t : Tab) (l : Int) (w : World) (hT : RTab w b lv hv t) (hL : t.length ≤ 1099511627776) (hl : -9223372036854775808 ≤ l ∧ l ≤ 9223372036854775807) :
    Calls Try.prog 29 #[.pointer (some ⟨b, 0, none⟩), .int .i64 l] w fun e w' => ∃ u, e = .returned u ∧ w'.ownsRow w.heap.size 33 4 u (level t l).length (vcs (level t l)) ∧ Below w.heap.size w w' := by
  obtain ⟨i0, hi, hz0, hz1, hz2⟩ := info_parts info_Version
  obtain ⟨ho, ⟨a, cap, fb, fo, rfl, ha, hcells⟩, ⟨a', cap', gb, go', rfl, ha', hcells'⟩⟩ := hT
  have hvl : (vers t).length = t.length := by simp [vers]
  have hhl : (hgts t).length = t.length := by simp [hgts]
  have HC := Lib.hid (fun q (hq : q < t.length) => (show At w fb (fo + q * 4) t[q].1 from by have := hcells q (by omega); simpa [vers] using this))
  have HD := Lib.hid (fun q (hq : q < t.length) => (show w.cell? ⟨gb, go' + q, none⟩ = some (.int .i64 (t[q].2 : Int)) from by have := hcells' q (by omega); simpa [hgts] using this))
  have HB := Lib.hid (fun W (hb : Below w.heap.size w W) => ho.below hb)
  rw [hvl] at ha ho HB
  rw [hhl] at ha' ho HB
  have hbl := ho.lt
  rw [hvl, hhl] at *
  clear hcells hcells' hvl hhl ho
  go_enter Try.func29, Try.ntmps29
  go_wp2_with fail
  go_loopw [5, 6] (fun u i wr => ∃ q : Nat, q ≤ t.length ∧ i = .int .i64 (q : Int) ∧ wr.ownsRow w.heap.size 33 4 u (level (t.take q) l).length (vcs (level (t.take q) l)) ∧ Below w.heap.size w wr) (fun _ i _ => t.length - (intOf i).toNat)
  case atStart => exact ⟨0, Nat.zero_le _, rfl, World.ownsRow_nil _ _ _ _, Below.refl _ _⟩
  case round =>
    obtain ⟨q, hq, rfl, hown, hB⟩ := hrel
    have hbs := hB.size
    have oR := HB.out wr hB
    have b0 := oR.cell 0
    have b1 := oR.cell 1
    simp at b0 b1
    by_cases hlt : q < t.length
    · obtain ⟨rfl, hfb⟩ := ha (by omega)
      obtain ⟨rfl, hgb⟩ := ha' (by omega)
      obtain ⟨e0, e1, e2, e3⟩ := (HC.out q hlt).below hB hfb
      have d0 := (hB.cell (p := ⟨gb, go' + q, none⟩) hgb).trans (HD.out q hlt)
      have hi1 : (0 : Int) ≤ (q : Int) ∧ (q : Int) < (t.length : Int) := by omega
      have HT := Lib.hid (level_take t l q hlt)
      have hfl := level_len t l q
      generalize level (t.take q) l = F at *
      generalize t[q] = x at *
      obtain ⟨⟨k, sq, d, val⟩, hh⟩ := x
      simp only at e0 e1 e2 e3 d0
      have HT2 : Hid (level (t.take (q + 1)) l = F ++ (if 0 ≤ l ∧ l < (hh : Int) then [⟨k, sq, d, val⟩] else [])) := HT
      clear HT
      by_cases h1 : 0 ≤ l
      · by_cases h2 : l < (hh : Int)
        · have HF := Lib.hid (show level (t.take (q + 1)) l = F ++ [⟨k, sq, d, val⟩] by rw [HT2.out, if_pos ⟨h1, h2⟩])
          clear HT2
          go_wp2_with (at_builtin; refine wpList_append_own _ rfl _ _ 26 rfl w.heap.size 33 i0 (.agg #[.string ⟨#[]⟩, .int .u64 0, .bool false, .string ⟨#[]⟩]) 4 48 Try.underlying26 hi hz0 hz1 hz2 rfl (by decide) _ _ _ rfl (hown.alloc _) ⟨wr.heap.size, 0, none⟩ 1 1 [_, _, _, _] rfl rfl (by simpa using Vs.cell_four_new wr _ _ _ _ _) (by simp [Value.oneCell']) (by unfold maxLen; omega) (by omega) (by simp; omega) ?_; intro v' w1 hown' hgrow _)
          have hb' := (hB.alloc hbs (.cells #[.string (Cd.bs k), .int .u64 sq, .bool d, .string (Cd.bs val)] 33)).grown hgrow (by simp; omega) (fun j hj => (hown.lt j hj).1)
          clear hgrow
          go_roundw
          case rel => exact ⟨q + 1, by omega, by go_num, by rw [HF.out, List.length_append, Vs.vcs_snoc]; exact hown', hb'⟩
          case measure => simp [intOf]; omega
        · have HF := Lib.hid (show level (t.take (q + 1)) l = F by rw [HT2.out, if_neg (fun h => h2 h.2)]; simp)
          clear HT2
          go_wp2_with fail
          go_roundw
          case rel => exact ⟨q + 1, by omega, by go_num, by rw [HF.out]; exact hown, hB⟩
          case measure => simp [intOf]; omega
      · have HF := Lib.hid (show level (t.take (q + 1)) l = F by rw [HT2.out, if_neg (fun h => h1 h.1)]; simp)
        clear HT2
        go_wp2_with fail
        go_roundw
        case rel => exact ⟨q + 1, by omega, by go_num, by rw [HF.out]; exact hown, hB⟩
        case measure => simp [intOf]; omega
    · obtain rfl : q = t.length := by omega
      rw [List.take_length] at hown
      go_wp2_with fail
      go_ret
      exact ⟨_, rfl, hown, hB⟩
end Mt
end Go.Proofs.Ytgfpkbdinfdkfaa
