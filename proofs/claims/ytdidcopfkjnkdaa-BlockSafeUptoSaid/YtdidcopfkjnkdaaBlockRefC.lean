/-
  The document's disk: Write.
-/
import Derived.Test.YtdidcopfkjnkdaaBlockRefB
namespace Go.Proofs.Ytdidcopfkjnkdaa
open Go.RowKit
set_option linter.unusedSimpArgs false
set_option linter.unusedVariables false

theorem info_RWrite : (Try.prog.info? 64).map (fun i => (i.zero, i.size, i.bytes)) = some (some (.agg #[.int .i64 0, .string ⟨#[]⟩]), 2, 24) := by kernel_rfl

/-- behind the append: the row is a longer one, perhaps elsewhere -/
theorem RefRows.appended {B0 b : Nat} {S : Sq.Blocks} {σ : Bl.St} {W W2 : World} {sv wv : Value} (h : RefRows B0 b S σ W sv wv) (x : Nat × Bl.Dat) {g cap : Nat} {tmp : Go.Obj}
    (hown : W2.ownsRow B0 64 2 (.slice (some ⟨g, 0, none⟩) (σ.wait.length + 1) cap) (σ.wait.length + 1) (wCells σ.wait ++ [.int .i64 (x.1 : Int), .string (Cd.bs x.2)]))
    (hgrow : (W.alloc tmp).grownBy W2 wv.ownBlock) (hat : wv.ownBlock = some g ∨ g = W.heap.size + 1) :
    RefRows B0 b (fun k => S k ∨ k = g) { σ with wait := σ.wait ++ [x] } (W2.setCell ⟨b, 1, none⟩ (.slice (some ⟨g, 0, none⟩) (σ.wait.length + 1) cap)) sv (.slice (some ⟨g, 0, none⟩) (σ.wait.length + 1) cap) ∧
    Sq.Step S (fun k => S k ∨ k = g) W (W2.setCell ⟨b, 1, none⟩ (.slice (some ⟨g, 0, none⟩) (σ.wait.length + 1) cap)) := by
  have hnb := h.obj.not_row (by decide : 40 ≠ 64) h.wait
  have hob : Ob.Obj W2 b 40 (refCells sv wv σ) := (h.obj.alloc tmp).grown hgrow hnb
  have hns : ∀ y, sv.ownBlock = some y → wv.ownBlock ≠ some y := Ob.rows_apart h.safe h.wait (by decide)
  have hsafe : W2.ownsRow B0 9 1 sv σ.safe.length (strCells σ.safe) := by
    refine Sq.row_kept (T := fun k => sv.ownBlock = some k) h.safe ?_ (fun _ hk => hk)
    exact (Sq.Kept.alloc _ _ _).trans (Sq.Kept.grown hgrow (fun r hr hn => hns r hn hr))
  have hg2 : g < W2.heap.size := (Ob.row_lt hown rfl).2
  have hg0 : B0 ≤ g := (Ob.row_lt hown rfl).1
  have hsz : W.heap.size + 1 ≤ W2.heap.size := by have := hgrow.size; simpa using this
  have hgb : b ≠ g := fun e => by subst e; exact hob.not_row (by decide) hown rfl
  refine ⟨⟨?_, ?_, ?_, .inl h.inb, fun k hk => .inl (h.ins k hk), fun k hk => ?_, fun k hk => ?_⟩, ⟨?_, fun k hk => .inl hk, fun k hk => ?_⟩⟩
  · have := hob.set 1 (.slice (some ⟨g, 0, none⟩) (σ.wait.length + 1) cap)
    simpa [refCells] using this
  · exact Ob.row_other hsafe (hob.not_row (by decide) hsafe) _
  · rw [wCells_snoc, List.length_append, List.length_singleton]
    exact Ob.row_other hown (hob.not_row (by decide) hown) _
  · simp [Value.ownBlock] at hk; exact .inr hk.symm
  · simp only [World.setCell, Array.size_modify]
    rcases hk with hk | hk
    · have := h.lo k hk; exact ⟨this.1, by omega⟩
    · subst hk; exact ⟨hg0, hg2⟩
  · refine ((Sq.Kept.alloc _ _ _).trans (Sq.Kept.grown hgrow (fun r hr hn => hn ?_))).trans (Sq.Kept.setCell _ _ (fun hn => hn h.inb))
    exact h.inw r hr
  · rcases hk with hk | hk
    · exact .inl hk
    · rcases hat with hat | hat
      · exact .inl (by rw [hk]; exact h.inw g hat)
      · exact .inr (by omega)

set_option maxRecDepth 100000 in
set_option maxHeartbeats 2000000 in
theorem refWrite_any {B0 b : Nat} {S : Sq.Blocks} {σ : Bl.St} {W : World} (h : RefAt B0 b S σ W) (i : Int) (hi : -9223372036854775808 ≤ i ∧ i ≤ 9223372036854775807) (s : Bl.Dat) (hs : s.length ≤ 1048576) (hw : σ.wait.length ≤ 1073741824) (hn : σ.safe.length ≤ 16384) (ha : σ.acts < 4611686018427387904) (hm : σ.armed ≤ 9223372036854775807) :
    Calls Try.prog 28 #[.pointer (some ⟨b, 0, none⟩), .int .i64 i, .string (Cd.bs s)] W fun e w' => e = .returned (.int .i64 ((Bl.write σ i s).2 : Int)) ∧ ∃ S', RefAt B0 b S' (Bl.write σ i s).1 w' ∧ Sq.Step S S' W w' := by
  obtain ⟨sv, wv, h⟩ := h
  have hB0 : B0 ≤ W.heap.size := Nat.le_trans (h.lo b h.inb).1 (Nat.le_of_lt (h.lo b h.inb).2)
  have hsz : (Cd.bs s).size = s.length := rfl
  have HSZ := Lib.hid hsz
  clear hsz
  have c1 := h.obj.cell 1
  have c2 := h.obj.cell 2
  have f1 := h.obj.frozen 1
  simp [refCells] at c1 c2
  have hIs := refIs_any h i hi
  by_cases hd : σ.down = true
  · have e : Bl.write σ i s = (σ, 4) := by unfold Bl.write; rw [if_pos hd]
    rw [e]
    have HIS := Lib.hid hIs
    clear hIs e
    go_enter Try.func28, Try.ntmps28
    go_wp2_with (go_at_call 45; refine HIS.out.mono ?_; rintro e w' ⟨rfl, rfl⟩)
    go_ret
    exact ⟨rfl, S, ⟨sv, wv, h⟩, Sq.Step.refl _ _⟩
  · have hdf : σ.down = false := by simpa using hd
    by_cases hr : Bl.inR σ i ∧ s.length = 256
    · obtain ⟨hr1, hr2⟩ := hr
      have hRR := hr1
      obtain ⟨h0, h1⟩ := hr1
      obtain ⟨k, rfl⟩ := Int.eq_ofNat_of_zero_le h0
      have e : Bl.write σ (k : Int) s = ((Bl.act { σ with wait := σ.wait ++ [(k, s)] }).1, if (Bl.act σ).2 then 4 else 0) := by unfold Bl.write; rw [if_neg hd, if_pos ⟨hRR, hr2⟩]; rfl
      rw [e]
      generalize hσ2 : (Bl.act { σ with wait := σ.wait ++ [(k, s)] }).1 = σ2
      have HS2 := Lib.hid hσ2
      clear hσ2
      rw [decide_eq_true hRR] at hIs
      have HIS := Lib.hid hIs
      have hlen : (Cd.bs s).size = 256 := hr2
      have hlen2 : ((s.length : Nat) : Int) = 256 := by omega
      have HAW := Lib.hid (Bl.act_wait σ (σ.wait ++ [(k, s)]))
      clear hIs e hd hr2 hRR
      obtain ⟨i0, hi0, hz0, hz1, hz2⟩ := info_parts info_RWrite
      go_enter Try.func28, Try.ntmps28
      go_wp2_with (first
        | (go_at_call 45; refine HIS.out.mono ?_; rintro e w' ⟨rfl, rfl⟩)
        | (at_builtin; refine wpList_append_lies _ (by rfl) _ _ 38 (by rfl) B0 64 i0 _ 2 24 Try.underlying38 hi0 hz0 hz1 hz2 rfl (by omega) wv σ.wait.length _ (by rfl) (h.wait.alloc _)
              ⟨W.heap.size, 0, none⟩ 1 1 [.int .i64 (k : Int), .string (Cd.bs s)] (by rfl) (by rfl) (World.news_of_block (cs := #[.int .i64 (k : Int), .string (Cd.bs s)]) (t := 64) (fr := (0, 0)) (heap_alloc_new W _)) (by simp [Value.oneCell'])
              (by omega) (by unfold maxLen; omega) (by omega) (by simp; omega) (W.heap.size + 1) (by simp) ?_; intro g cap w2 hown2 hgrow hat hlt2; obtain ⟨hR2, hst2⟩ := h.appended (k, s) hown2 hgrow hat; have hob2 : Ob.Obj w2 b 40 (refCells sv wv σ) := (h.obj.alloc _).grown hgrow (h.obj.not_row (by decide) h.wait); have c12 := hob2.cell 1; have f12 := hob2.frozen 1; simp [refCells] at c12)
        | (go_at_call 46; refine (refAct_any hR2 (by simpa using ha) (by simpa using hm)).mono ?_; rintro e w3 ⟨rfl, hR3, hst3⟩; rw [HAW.out]))
      all_goals go_ret
      all_goals exact ⟨rfl, _, ⟨sv, _, by rw [← HS2.out]; exact hR3⟩, hst2.trans hst3⟩
    · have e : Bl.write σ i s = (σ, 1) := by unfold Bl.write; rw [if_neg hd, if_neg hr]
      rw [e]
      have hbad : decide (Bl.inR σ i) = false ∨ (decide (Bl.inR σ i) = true ∧ ¬ ((s.length : Nat) : Int) = 256) := by
        by_cases h1 : Bl.inR σ i
        · exact .inr ⟨decide_eq_true h1, fun h2 => hr ⟨h1, by omega⟩⟩
        · exact .inl (decide_eq_false h1)
      have HIS := Lib.hid hIs
      clear hIs e hd hr
      rcases hbad with hb1 | ⟨hb1, hb2⟩
      all_goals
        rw [hb1] at HIS
        clear hb1
        go_enter Try.func28, Try.ntmps28
        go_wp2_with (go_at_call 45; refine HIS.out.mono ?_; rintro e w' ⟨rfl, rfl⟩)
        go_ret
        exact ⟨rfl, S, ⟨sv, wv, h⟩, Sq.Step.refl _ _⟩
end Go.Proofs.Ytdidcopfkjnkdaa
