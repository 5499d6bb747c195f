/-
  The program's disk: Write.
-/
import Derived.Test.YtdidcopfkjnkdaaBlockDevB
import Derived.Deep.AppendLies
import Derived.Deep.RegionHeld3
import Derived.Deep.RegionLaw
import Derived.OwnWalk
namespace Go.Proofs.Ytdidcopfkjnkdaa
open Go.RowKit Go.Maps
set_option linter.unusedSimpArgs false
set_option linter.unusedVariables false

theorem info_BWrite : (Try.prog.info? 61).map (fun i => (i.zero, i.size, i.bytes)) = some (some (.agg #[.int .i64 0, .string ⟨#[]⟩]), 2, 24) := by kernel_rfl

namespace Bd
variable {B0 b mb : Nat} {S : Sq.Blocks} {σ σ' : Bl.St} {W W' : World} {sv wv : Value} {x : Nat × Bl.Dat}

/-- amid a Write: the map has the new one already, the list hasn't -/
structure Half (B0 b : Nat) (S : Sq.Blocks) (σ : Bl.St) (x : Nat × Bl.Dat) (W : World) (sv wv : Value) (mb : Nat) : Prop where
  obj : Ob.Obj W b 58 (cells sv wv mb σ)
  safe : W.ownsRow B0 9 1 sv σ.safe.length (strCells σ.safe)
  wait : W.ownsRow B0 61 2 wv σ.wait.length (wCells σ.wait)
  last : ownsLast W mb (σ.wait.length + 1) (mapOf (σ.wait ++ [x]))
  inb : S b
  ins : ∀ g, sv.ownBlock = some g → S g
  inw : ∀ g, wv.ownBlock = some g → S g
  inm : S mb
  lo : ∀ k, S k → B0 ≤ k ∧ k < W.heap.size
theorem Half.kept (h : Half B0 b S σ x W sv wv mb) (hk : Sq.Kept S W W') : Half B0 b S σ x W' sv wv mb :=
  ⟨h.obj.kept hk h.inb, Sq.row_kept h.safe hk h.ins, Sq.row_kept h.wait hk h.inw, ownsMap_kept h.last hk h.inm, h.inb, h.ins, h.inw, h.inm, fun k hk' => ⟨(h.lo k hk').1, Nat.lt_of_lt_of_le (h.lo k hk').2 hk.size⟩⟩
theorem Rows.mapped (h : Rows B0 b S σ W sv wv mb) (hm : ownsLast W' mb (σ.wait.length + 1) ((mapOf σ.wait).put (.int .i64 (x.1 : Int)) (.lit (.int .i64 (σ.wait.length : Int))))) (hg : W.grownBy W' (some mb)) :
    Half B0 b S σ x W' sv wv mb ∧ Sq.Step S S W W' := by
  have hT : Sq.Kept (fun k => k ≠ mb) W W' := Sq.Kept.grown hg (fun r hr hn => hn (by simpa using hr.symm))
  refine ⟨⟨h.obj.kept hT (obj_not_map h.obj h.last), Sq.row_kept h.safe hT (fun g hg' e => row_not_map h.last h.safe (by rw [hg', e])), Sq.row_kept h.wait hT (fun g hg' e => row_not_map h.last h.wait (by rw [hg', e])), by rw [mapOf_snoc]; exact hm, h.inb, h.ins, h.inw, h.inm, fun k hk => ⟨(h.lo k hk).1, Nat.lt_of_lt_of_le (h.lo k hk).2 hT.size⟩⟩, ⟨hT.less (fun k hk _ e => hk (e ▸ h.inm)), fun _ hk => hk, fun _ hk => .inl hk⟩⟩

/-- behind the append: the row is a longer one, perhaps elsewhere -/
theorem Half.appended {W2 : World} (h : Half B0 b S σ x W sv wv mb) {g cap : Nat}
    (hown : W2.ownsRow B0 61 2 (.slice (some ⟨g, 0, none⟩) (σ.wait.length + 1) cap) (σ.wait.length + 1) (wCells σ.wait ++ [.int .i64 (x.1 : Int), .string (Cd.bs x.2)]))
    (hgrow : W.grownBy W2 wv.ownBlock) (hat : wv.ownBlock = some g ∨ W.heap.size ≤ g) :
    Rows B0 b (fun k => S k ∨ k = g) { σ with wait := σ.wait ++ [x] } (W2.setCell ⟨b, 1, none⟩ (.slice (some ⟨g, 0, none⟩) (σ.wait.length + 1) cap)) sv (.slice (some ⟨g, 0, none⟩) (σ.wait.length + 1) cap) mb ∧
    Sq.Step S (fun k => S k ∨ k = g) W (W2.setCell ⟨b, 1, none⟩ (.slice (some ⟨g, 0, none⟩) (σ.wait.length + 1) cap)) := by
  have hnb := h.obj.not_row (by decide : 58 ≠ 61) h.wait
  have hob : Ob.Obj W2 b 58 (cells sv wv mb σ) := h.obj.grown hgrow hnb
  have hns : ∀ y, sv.ownBlock = some y → wv.ownBlock ≠ some y := Ob.rows_apart h.safe h.wait (by decide)
  have hsafe : W2.ownsRow B0 9 1 sv σ.safe.length (strCells σ.safe) :=
    Sq.row_kept (T := fun k => sv.ownBlock = some k) h.safe (Sq.Kept.grown hgrow (fun r hr hn => hns r hn hr)) (fun _ hk => hk)
  have hlast : ownsLast W2 mb (σ.wait.length + 1) (mapOf (σ.wait ++ [x])) :=
    ownsMap_kept (T := fun k => k = mb) h.last (Sq.Kept.grown hgrow (fun r hr hn => row_not_map h.last h.wait (by rw [hr, hn]))) rfl
  have hg2 : g < W2.heap.size := (Ob.row_lt hown rfl).2
  have hg0 : B0 ≤ g := (Ob.row_lt hown rfl).1
  have hsz : W.heap.size ≤ W2.heap.size := hgrow.size
  refine ⟨⟨?_, ?_, ?_, ?_, .inl h.inb, fun k hk => .inl (h.ins k hk), fun k hk => ?_, .inl h.inm, fun k hk => ?_⟩, ⟨?_, fun k hk => .inl hk, fun k hk => ?_⟩⟩
  · have := hob.set 1 (.slice (some ⟨g, 0, none⟩) (σ.wait.length + 1) cap)
    simpa [cells] using this
  · exact Ob.row_other hsafe (hob.not_row (by decide) hsafe) _
  · rw [wCells_snoc, List.length_append, List.length_singleton]
    exact Ob.row_other hown (hob.not_row (by decide) hown) _
  · rw [List.length_append, List.length_singleton]
    exact hlast.setCell (a := ⟨b, 1, none⟩) (obj_not_map hob hlast).symm _
  · simp [Value.ownBlock] at hk; exact .inr hk.symm
  · simp only [World.setCell, Array.size_modify]
    rcases hk with hk | hk
    · have := h.lo k hk; exact ⟨this.1, by omega⟩
    · subst hk; exact ⟨hg0, hg2⟩
  · exact (Sq.Kept.grown hgrow (fun r hr hn => hn (h.inw r hr))).trans (Sq.Kept.setCell _ _ (fun hn => hn h.inb))
  · rcases hk with hk | hk
    · exact .inl hk
    · rcases hat with hat | hat
      · exact .inl (by rw [hk]; exact h.inw g hat)
      · exact .inr (by omega)

set_option maxRecDepth 100000 in
set_option maxHeartbeats 4000000 in
theorem write_any (h : Rows B0 b S σ W sv wv mb) (hw : σ.wait.length ≤ 1073741824) (ho : Bl.Ok σ) (ha : σ.acts < 4611686018427387904) (i : Int) (s : Bl.Dat) (hi : -9223372036854775808 ≤ i ∧ i ≤ 9223372036854775807) (hs : s.length ≤ 1048576) :
    Calls Try.prog 16 #[.pointer (some ⟨b, 0, none⟩), .int .i64 i, .string (Cd.bs s)] W fun e w' => e = .returned (.int .i64 ((Bl.write σ i s).2 : Int)) ∧ ∃ S', At B0 b S' (Bl.write σ i s).1 w' ∧ Sq.Step S S' W w' := by
  have hRf := refusal_any h i hi
  have hsz : (Cd.bs s).size = s.length := rfl
  have HSZ := Lib.hid hsz
  clear hsz
  by_cases hd : σ.down = true
  · have e : Bl.write σ i s = (σ, 4) := by unfold Bl.write; rw [if_pos hd]
    have e2 : why σ i = 4 := by unfold why; rw [if_pos hd]
    rw [e2] at hRf
    rw [e]
    have HRF := Lib.hid hRf
    clear hRf e e2
    go_enter Try.func16, Try.ntmps16
    go_wp2_with (go_at_call 33; refine HRF.out.mono ?_; rintro e w' ⟨rfl, rfl⟩)
    go_ret
    exact ⟨rfl, S, ⟨sv, wv, mb, h⟩, Sq.Step.refl _ _⟩
  · by_cases hr : Bl.inR σ i
    · have e2 : why σ i = 0 := by unfold why; rw [if_neg hd, if_pos hr]
      rw [e2] at hRf
      have HRF := Lib.hid hRf
      by_cases hl : s.length = 256
      · have hRR := hr
        obtain ⟨h0, h1⟩ := hr
        obtain ⟨k, rfl⟩ := Int.eq_ofNat_of_zero_le h0
        have e : Bl.write σ (k : Int) s = ((Bl.act { σ with wait := σ.wait ++ [(k, s)] }).1, if (Bl.act σ).2 then 4 else 0) := by unfold Bl.write; rw [if_neg hd, if_pos ⟨hRR, hl⟩]; rfl
        rw [e]
        generalize hσ2 : (Bl.act { σ with wait := σ.wait ++ [(k, s)] }).1 = σ2
        have HS2 := Lib.hid hσ2
        have HAW := Lib.hid (Bl.act_wait σ (σ.wait ++ [(k, s)]))
        have hlen : (Cd.bs s).size = 256 := hl
        have hlen2 : ((s.length : Nat) : Int) = 256 := by omega
        have c1 := h.obj.cell 1
        have c2 := h.obj.cell 2
        simp [cells] at c1 c2
        have hnb := ho.blocks
        have hkey : keyOf Try.prog 3 (.int .i64 (k : Int)) = some (.int .i64 (k : Int)) := keyOf_int_mk Try.underlying3 (WalkArith.wf_i64 (by omega))
        have HKEY := Lib.hid hkey
        have hval : plainElem (H := Unit) Try.prog 3 (.int .i64 (σ.wait.length : Int)) = some (.lit (.int .i64 (σ.wait.length : Int)), []) := plainElem_int Try.underlying3 (WalkArith.wf_i64 (by omega))
        have HVAL := Lib.hid hval
        have hC := fun w => clone_any (Cd.bs s) w (by show s.length ≤ _; omega)
        have HC := Lib.hid hC
        have hl0 := h.last
        have H := Lib.hid h
        obtain ⟨ao, cap, rfl, hg0⟩ := Sq.row_cases h.wait
        clear e e2 hRf hd hkey hval hC hσ2 h hl hRR
        obtain ⟨i0, hi0, hz0, hz1, hz2⟩ := info_parts info_BWrite
        have hB0 : B0 ≤ W.heap.size := Nat.le_trans (H.out.lo b H.out.inb).1 (Nat.le_of_lt (H.out.lo b H.out.inb).2)
        go_enter Try.func16, Try.ntmps16
        go_wp2_with (go_at_call 33; refine HRF.out.mono ?_; rintro e w' ⟨rfl, rfl⟩)
        go_still_tail 10, (by kernel_rfl)
        change wpList _ _ _ _ _ (World.drew _)
        refine wpList_mapUpdate_own _ rfl _ _ _ 56 rfl 3 3 lawInt Try.underlying56 _ mb σ.wait.length (mapOf σ.wait) rfl hl0.drew (by unfold maxLen; omega) _ _ _ rfl rfl HKEY.out _ [] HVAL.out ?_
        intro w1 hown1 hgrow1
        obtain ⟨hH1, hst1⟩ := (H.out.kept (Sq.Kept.drew _ _)).mapped (x := (k, s)) hown1 hgrow1
        have c11 := hH1.obj.cell 1
        simp [cells] at c11
        have HH1 := Lib.hid hH1
        clear hown1 hgrow1 hl0 hH1
        go_wp2_with fail
        refine wp_region_noPanic ?_
        go_region_law (first
          | (go_simp; go_at_call 34; refine (HC.out _).mono ?_; rintro e wc ⟨rfl, hbc⟩; have hHc := HH1.out.kept ((Sq.Kept.drew _ _).trans (Sq.Kept.of_below hbc)); have hstc : Sq.Step S S w1 wc := (Sq.Step.drew _ _).trans (Sq.Step.below hbc); have c1c := hHc.obj.cell 1; simp [cells] at c1c; have hlbc : b < wc.heap.size := hHc.obj.lt; have hB1 : B0 ≤ wc.heap.size := Nat.le_trans (hHc.lo b hHc.inb).1 (Nat.le_of_lt (hHc.lo b hHc.inb).2); have HHc := Lib.hid hHc; clear hHc)
          | (refine step_append_lies _ (by rfl) _ _ _ (by rfl) B0 61 i0 _ 2 24 Try.underlying55 hi0 hz0 hz1 hz2 rfl (by omega) (.slice ao σ.wait.length cap) σ.wait.length _ (by rfl) (HHc.out.wait.alloc _)
              ⟨wc.heap.size, 0, none⟩ 1 1 [.int .i64 (k : Int), .string (Cd.bs s)] (by rfl) (by rfl) (World.news_of_block (cs := #[.int .i64 (k : Int), .string (Cd.bs s)]) (t := 61) (fr := (0, 0)) (heap_alloc_new wc _)) (by simp [Value.oneCell'])
              (by omega) (by unfold maxLen; omega) (by omega) (by simp; omega) (wc.heap.size + 1) (by simp) ?_; intro g cap2 w2 hown2 hgrow hat hlt2; obtain ⟨hR2, hst2⟩ := (HHc.out.kept (Sq.Kept.alloc _ _ _)).appended hown2 hgrow (hat.imp id (fun e => by rw [e]; simp)); have hob2 : Ob.Obj w2 b 58 (cells sv (.slice ao σ.wait.length cap) mb σ) := (HHc.out.obj.alloc _).grown hgrow (HHc.out.obj.not_row (by decide) HHc.out.wait); have c12 := hob2.cell 1; have f12 := hob2.frozen 1; simp [cells] at c12; clear hob2))
        all_goals (refine NoPanic.normal ?_; go_wp2_with (go_at_call 37; refine (act_any hR2 (by simpa using ha) (by simpa using ho.armed)).mono ?_; rintro e w3 ⟨rfl, hR3, hst3⟩; rw [HAW.out]))
        all_goals go_ret
        all_goals exact ⟨by first | rfl | (split <;> rfl), _, ⟨sv, _, mb, by rw [← HS2.out]; exact hR3⟩, ((((Sq.Step.drew _ _).trans hst1).trans hstc).trans (Sq.Step.alloc0 _ _ _)).trans (hst2.trans hst3)⟩
      · have e : Bl.write σ i s = (σ, 1) := by unfold Bl.write; rw [if_neg hd, if_neg (fun hn => hl hn.2)]
        rw [e]
        have hlen2 : ¬ ((s.length : Nat) : Int) = 256 := by omega
        clear hRf e e2 hd hr hl
        go_enter Try.func16, Try.ntmps16
        go_wp2_with (go_at_call 33; refine HRF.out.mono ?_; rintro e w' ⟨rfl, rfl⟩)
        go_ret
        exact ⟨rfl, S, ⟨sv, wv, mb, h⟩, Sq.Step.refl _ _⟩
    · have e : Bl.write σ i s = (σ, 1) := by unfold Bl.write; rw [if_neg hd, if_neg (fun hn => hr hn.1)]
      have e2 : why σ i = 1 := by unfold why; rw [if_neg hd, if_neg hr]
      rw [e2] at hRf
      rw [e]
      have HRF := Lib.hid hRf
      clear hRf e e2 hd hr
      go_enter Try.func16, Try.ntmps16
      go_wp2_with (go_at_call 33; refine HRF.out.mono ?_; rintro e w' ⟨rfl, rfl⟩)
      go_ret
      exact ⟨rfl, S, ⟨sv, wv, mb, h⟩, Sq.Step.refl _ _⟩
end Bd
end Go.Proofs.Ytdidcopfkjnkdaa
