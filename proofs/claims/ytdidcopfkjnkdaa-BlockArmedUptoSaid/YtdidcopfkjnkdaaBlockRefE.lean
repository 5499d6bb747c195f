/-
  The document's disk: Pending, New.
-/
import Derived.Test.YtdidcopfkjnkdaaBlockMake
namespace Go.Proofs.Ytdidcopfkjnkdaa
open Go.RowKit
set_option linter.unusedSimpArgs false
set_option linter.unusedVariables false

theorem info_int : (Try.prog.info? 3).map (fun i => (i.zero, i.size, i.bytes)) = some (some (.int .i64 0), 1, 8) := by kernel_rfl
theorem info_string : (Try.prog.info? 9).map (fun i => (i.zero, i.size, i.bytes)) = some (some (.string ⟨#[]⟩), 1, 16) := by kernel_rfl
theorem iCells_snoc (l : List Nat) (x : Nat) : iCells (l ++ [x]) = iCells l ++ [.int .i64 (x : Int)] := by simp [iCells]

set_option maxRecDepth 100000 in
set_option maxHeartbeats 2000000 in
theorem refPending_any {B0 b : Nat} {S : Sq.Blocks} {σ : Bl.St} {W : World} (h : RefAt B0 b S σ W) (hw : σ.wait.length ≤ 1073741824) :
    Calls Try.prog 36 #[.pointer (some ⟨b, 0, none⟩)] W fun e w' => ∃ v, e = .returned v ∧ w'.ownsRow W.heap.size 3 1 v (σ.wait.map (·.1)).length (iCells (σ.wait.map (·.1))) ∧ Below W.heap.size W w' := by
  obtain ⟨sv, wv, h⟩ := h
  have hRw := h.wait
  obtain ⟨ao1, cap1, hwv, hg1⟩ := Sq.row_cases hRw
  subst hwv
  have c1 := h.obj.cell 1
  simp [refCells] at c1
  have hlb := h.obj.lt
  obtain ⟨i0, hi0, hz0, hz1, hz2⟩ := info_parts info_int
  go_enter Try.func36, Try.ntmps36
  go_wp2_with fail
  go_loopw [3, 4] (fun v i wr => ∃ k : Nat, k ≤ σ.wait.length ∧ i = .int .i64 k ∧ wr.ownsRow W.heap.size 3 1 v ((σ.wait.take k).map (·.1)).length (iCells ((σ.wait.take k).map (·.1))) ∧ Below W.heap.size W wr) (fun _ i _ => σ.wait.length - (intOf i).toNat)
  case atStart => exact ⟨0, Nat.zero_le _, rfl, World.ownsRow_nil _ _ _ _, Below.refl _ _⟩
  case round =>
    obtain ⟨k, hk, rfl, hown, hb⟩ := hrel
    have c1r := (hb.cell (p := ⟨b, 1, none⟩) hlb).trans c1
    have hbs := hb.size
    by_cases hlt : k < σ.wait.length
    · obtain ⟨g1, rfl, _, hl1⟩ := hg1 (by omega)
      have hcs := wCells_get σ.wait k hlt
      have hc0 := (hb.cell (p := ⟨g1, k * 2, none⟩) hl1).trans ((hRw.cellAt (k * 2) (by omega)).trans hcs.1)
      have hts := List.take_succ_eq_append_getElem hlt
      have hi1 : (0 : Int) ≤ (k : Int) ∧ (k : Int) < (σ.wait.length : Int) := by omega
      have hlen : ((σ.wait.take k).map (·.1)).length ≤ k := by simp; omega
      generalize hx : σ.wait[k] = x at hc0 hts
      have HTS := Lib.hid hts
      clear hcs hts hx
      go_wp2_with (at_builtin; refine wpList_append_own _ rfl _ _ 49 rfl W.heap.size 3 i0 (.int .i64 0) 1 8 Try.underlying49 hi0 hz0 hz1 hz2 rfl (by decide) _ _ _ rfl (hown.alloc _) ⟨wr.heap.size, 0, none⟩ 1 1 [_] rfl rfl (cell_one_new _ _ _) (by simp [Value.oneCell']) (by unfold maxLen; omega) (by omega) (by simp; omega) ?_; intro v' w2 hown2 hgrow _)
      go_roundw
      case rel => exact ⟨k + 1, by omega, by go_num, by rw [HTS.out, List.map_append, List.map_cons, List.map_nil, iCells_snoc, List.length_append, List.length_singleton]; exact hown2, (hb.alloc hbs _).grown hgrow (by simp; omega) (fun j hj => (Ob.row_lt hown hj).1)⟩
      case measure => simp [intOf]; omega
    · obtain rfl : k = σ.wait.length := by omega
      rw [List.take_length] at hown
      go_wp2_with fail
      go_ret
      exact ⟨u3, rfl, by simpa [iCells] using hown, hb⟩

theorem strCells_snoc (l : List Bl.Dat) (d : Bl.Dat) : strCells (l ++ [d]) = strCells l ++ [.string (Cd.bs d)] := by simp [strCells]

/-- behind the append onto the safe blocks -/
theorem RefRows.appendedSafe {B0 b : Nat} {S : Sq.Blocks} {σ : Bl.St} {W W2 : World} {sv wv : Value} (h : RefRows B0 b S σ W sv wv) (d : Bl.Dat) {g cap : Nat} {tmp : Go.Obj}
    (hown : W2.ownsRow B0 9 1 (.slice (some ⟨g, 0, none⟩) (σ.safe.length + 1) cap) (σ.safe.length + 1) (strCells σ.safe ++ [.string (Cd.bs d)]))
    (hgrow : (W.alloc tmp).grownBy W2 sv.ownBlock) (hat : sv.ownBlock = some g ∨ g = W.heap.size + 1) :
    RefRows B0 b (fun k => S k ∨ k = g) { σ with safe := σ.safe ++ [d] } (W2.setCell ⟨b, 0, none⟩ (.slice (some ⟨g, 0, none⟩) (σ.safe.length + 1) cap)) (.slice (some ⟨g, 0, none⟩) (σ.safe.length + 1) cap) wv ∧
    Sq.Step S (fun k => S k ∨ k = g) W (W2.setCell ⟨b, 0, none⟩ (.slice (some ⟨g, 0, none⟩) (σ.safe.length + 1) cap)) := by
  have hnb := h.obj.not_row (by decide : 40 ≠ 9) h.safe
  have hob : Ob.Obj W2 b 40 (refCells sv wv σ) := (h.obj.alloc tmp).grown hgrow hnb
  have hns : ∀ y, wv.ownBlock = some y → sv.ownBlock ≠ some y := Ob.rows_apart h.wait h.safe (by decide)
  have hwait : W2.ownsRow B0 64 2 wv σ.wait.length (wCells σ.wait) := by
    refine Sq.row_kept (T := fun k => wv.ownBlock = some k) h.wait ?_ (fun _ hk => hk)
    exact (Sq.Kept.alloc _ _ _).trans (Sq.Kept.grown hgrow (fun r hr hn => hns r hn hr))
  have hg2 : g < W2.heap.size := (Ob.row_lt hown rfl).2
  have hg0 : B0 ≤ g := (Ob.row_lt hown rfl).1
  have hsz : W.heap.size + 1 ≤ W2.heap.size := by have := hgrow.size; simpa using this
  refine ⟨⟨?_, ?_, ?_, .inl h.inb, fun k hk => ?_, fun k hk => .inl (h.inw k hk), fun k hk => ?_⟩, ⟨?_, fun k hk => .inl hk, fun k hk => ?_⟩⟩
  · have := hob.set 0 (.slice (some ⟨g, 0, none⟩) (σ.safe.length + 1) cap)
    simpa [refCells] using this
  · rw [strCells_snoc, List.length_append, List.length_singleton]
    exact Ob.row_other hown (hob.not_row (by decide) hown) _
  · exact Ob.row_other hwait (hob.not_row (by decide) hwait) _
  · simp [Value.ownBlock] at hk; exact .inr hk.symm
  · simp only [World.setCell, Array.size_modify]
    rcases hk with hk | hk
    · have := h.lo k hk; exact ⟨this.1, by omega⟩
    · subst hk; exact ⟨hg0, hg2⟩
  · refine ((Sq.Kept.alloc _ _ _).trans (Sq.Kept.grown hgrow (fun r hr hn => hn ?_))).trans (Sq.Kept.setCell _ _ (fun hn => hn h.inb))
    exact h.ins r hr
  · rcases hk with hk | hk
    · exact .inl hk
    · rcases hat with hat | hat
      · exact .inl (by rw [hk]; exact h.ins g hat)
      · exact .inr (by omega)

set_option maxRecDepth 100000 in
set_option maxHeartbeats 4000000 in
theorem refNew_any (n : Nat) (W : World) (hn : n ≤ 16384) :
    Calls Try.prog 10 #[.int .i64 (n : Int)] W fun e w' => ∃ b S, e = .returned (.pointer (some ⟨b, 0, none⟩)) ∧ RefAt W.heap.size b S (Bl.new n) w' ∧ Below W.heap.size W w' := by
  obtain ⟨i0, hi0, hz0, hz1, hz2⟩ := info_parts info_string
  have hN := Lib.hid fun W => noughtsr_any 256 W (by omega)
  go_enter Try.func10, Try.ntmps10
  go_wp2_with (go_at_call 19; refine (hN.out _).mono ?_; rintro e w1 ⟨rfl, hb1⟩)
  have hs1 := hb1.size
  simp at hs1
  have hobj : Ob.Obj w1 W.heap.size 40 (refCells (.slice none 0 0) (.slice none 0 0) (Bl.new 0)) := (Ob.Obj.new W _ (refCells (.slice none 0 0) (.slice none 0 0) (Bl.new 0))).below hb1
  have hB1 : Below W.heap.size W w1 := ((Below.refl _ _).alloc (Nat.le_refl _) _).trans (hb1.mono (by simp))
  have hR0 : RefRows W.heap.size W.heap.size (fun k => k = W.heap.size) (Bl.new 0) w1 (.slice none 0 0) (.slice none 0 0) :=
    ⟨hobj, World.ownsRow_nil _ _ _ _, World.ownsRow_nil _ _ _ _, rfl, fun g hg => by simp [Value.ownBlock] at hg, fun g hg => by simp [Value.ownBlock] at hg, fun k hk => by subst hk; exact ⟨Nat.le_refl _, by omega⟩⟩
  clear hobj hb1
  go_loopw [5] (fun i wr => ∃ (k : Nat) (S : Sq.Blocks) (sv : Value), k ≤ n ∧ i = .int .i64 k ∧ RefRows W.heap.size W.heap.size S (Bl.new k) wr sv (.slice none 0 0) ∧ Below W.heap.size W wr) (fun i _ => n - (intOf i).toNat)
  case atStart => exact ⟨0, _, _, Nat.zero_le _, rfl, hR0, hB1⟩
  case round =>
    obtain ⟨k, S, sv, hk, rfl, hR, hB⟩ := hrel
    by_cases hlt : k < n
    · have hRs : wr.ownsRow W.heap.size 9 1 sv k (strCells (Bl.new k).safe) := by have := hR.safe; simpa [Bl.new] using this
      have c0 := hR.obj.cell 0
      have f0 := hR.obj.frozen 0
      simp [refCells] at c0
      have hbs := hB.size
      have hnew : (Bl.new (k + 1)).safe = (Bl.new k).safe ++ [List.replicate 256 0] := by simp [Bl.new, Bl.noughts, List.replicate_succ']
      have hlk : (Bl.new k).safe.length = k := by simp [Bl.new]
      have HNW := Lib.hid hnew
      have HLK := Lib.hid hlk
      clear hnew hlk
      go_wp2_with (at_builtin; refine wpList_append_lies _ (by rfl) _ _ 37 (by rfl) W.heap.size 9 i0 _ 1 16 Try.underlying37 hi0 hz0 hz1 hz2 rfl (by omega) sv k _ (by rfl) (hRs.alloc _) ⟨wr.heap.size, 0, none⟩ 1 1 [.string (Cd.bs (List.replicate 256 0))] (by rfl) (by rfl) (World.news_of_block (cs := #[.string (Cd.bs (List.replicate 256 0))]) (t := 9) (fr := (0, 0)) (heap_alloc_new wr _)) (by simp [Value.oneCell']) (by omega) (by unfold maxLen; omega) (by omega) (by simp; omega) (wr.heap.size + 1) (by simp) ?_; intro g cap w2 hown2 hgrow hat hlt2; obtain ⟨hR2, hst2⟩ := hR.appendedSafe (List.replicate 256 0) (cap := cap) (by rw [HLK.out]; exact hown2) hgrow hat; have hob2 : Ob.Obj w2 W.heap.size 40 (refCells sv (.slice none 0 0) (Bl.new k)) := (hR.obj.alloc _).grown hgrow (hR.obj.not_row (by decide) hR.safe); have c02 := hob2.cell 0; have f02 := hob2.frozen 0; simp [refCells] at c02; rw [HLK.out] at hR2 hst2; have HR2 := Lib.hid hR2; have HST2 := Lib.hid hst2; clear hR2 hst2)
      go_roundw
      case rel =>
        refine ⟨k + 1, fun x => S x ∨ x = g, .slice (some ⟨g, 0, none⟩) (k + 1) cap, by omega, by go_num, ?_, hB.trans (HST2.out.kept.below (fun j hj hS => ?_) hbs)⟩
        · have e : Bl.new (k + 1) = { Bl.new k with safe := (Bl.new k).safe ++ [List.replicate 256 0] } := by rw [← HNW.out]; rfl
          rw [e]; exact HR2.out
        · have := (hR.lo j hS).1; omega
      case measure => simp [intOf]; omega
    · obtain rfl : k = n := by omega
      go_wp2_with fail
      go_ret
      exact ⟨W.heap.size, S, rfl, ⟨_, _, hR⟩, hB⟩
end Go.Proofs.Ytdidcopfkjnkdaa
