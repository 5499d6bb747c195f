/-
  The program's disk (package block): how it lies in memory; outage, refusal, act, settle, do.
-/
import Derived.Test.YtdidcopfkjnkdaaBlockNil
import Derived.Maps.OwnSet
namespace Go.Proofs.Ytdidcopfkjnkdaa
open Go.RowKit Go.Maps
set_option linter.unusedSimpArgs false
set_option linter.unusedVariables false

namespace Bd

theorem lawInt : Keyed Try.prog 3 := int_keyed Try.underlying3
theorem zeroInt (w : World) : (zeroValue 3).run Try.prog w = .ok (.int .i64 0) w := by kernel_rfl

theorem snocInd {α : Type} {Q : List α → Prop} (h0 : Q []) (h1 : ∀ l x, Q l → Q (l ++ [x])) (l : List α) : Q l := by
  have : ∀ r : List α, Q r.reverse := fun r => by
    induction r with
    | nil => exact h0
    | cons x r ih => rw [List.reverse_cons]; exact h1 _ _ ih
  rw [← List.reverse_reverse l]; exact this _
/-- of each block with pending writes the number of the last one, as a map's datum -/
def mapGo (l : List (Nat × Bl.Dat)) : DataW Unit × Nat := l.foldl (fun m x => (m.1.put (.int .i64 (x.1 : Int)) (.lit (.int .i64 (m.2 : Int))), m.2 + 1)) (.map [], 0)
def mapOf (l : List (Nat × Bl.Dat)) : DataW Unit := (mapGo l).1
theorem mapGo_snoc (l : List (Nat × Bl.Dat)) (x : Nat × Bl.Dat) : mapGo (l ++ [x]) = ((mapGo l).1.put (.int .i64 (x.1 : Int)) (.lit (.int .i64 ((mapGo l).2 : Int))), (mapGo l).2 + 1) := by
  unfold mapGo; rw [List.foldl_append]; rfl
theorem mapGo_len (l : List (Nat × Bl.Dat)) : (mapGo l).2 = l.length := by
  induction l using snocInd with
  | h0 => rfl
  | h1 l x ih => rw [mapGo_snoc, List.length_append]; simp [ih]
theorem mapOf_snoc (l : List (Nat × Bl.Dat)) (x : Nat × Bl.Dat) : mapOf (l ++ [x]) = (mapOf l).put (.int .i64 (x.1 : Int)) (.lit (.int .i64 (l.length : Int))) := by
  unfold mapOf; rw [mapGo_snoc, mapGo_len]
theorem mapOf_isMap (l : List (Nat × Bl.Dat)) : IsMap (mapOf l) := by
  induction l using snocInd with
  | h0 => exact ⟨[], rfl⟩
  | h1 l x ih => rw [mapOf_snoc]; exact ih.put _ _
theorem lastW_snoc (l : List (Nat × Bl.Dat)) (x : Nat × Bl.Dat) (k : Nat) : Bl.lastW (l ++ [x]) k = if x.1 = k then some x.2 else Bl.lastW l k := by
  unfold Bl.lastW
  rw [List.reverse_append]
  by_cases h : x.1 = k
  · simp [h]
  · simp [h]
/-- the map says of each block where its last pending write is -/
theorem mapOf_spec (l : List (Nat × Bl.Dat)) (k : Nat) :
    (has (mapOf l) (.int .i64 (k : Int)) = false ∧ Bl.lastW l k = none) ∨
    ∃ j, ∃ h : j < l.length, has (mapOf l) (.int .i64 (k : Int)) = true ∧ (∀ z, (mapOf l).atKey (.int .i64 (k : Int)) z = .lit (.int .i64 (j : Int))) ∧ Bl.lastW l k = some l[j].2 := by
  induction l using snocInd with
  | h0 => exact .inl ⟨rfl, rfl⟩
  | h1 l x ih =>
    rw [mapOf_snoc, lastW_snoc]
    by_cases h : x.1 = k
    · subst h
      refine .inr ⟨l.length, by simp, has_put_same (mapOf_isMap l) (by exact trivial) _, fun z => atKey_put_same (mapOf_isMap l) (by exact trivial) _ _, ?_⟩
      rw [if_pos rfl]; simp
    · have hne : (Lit.int .i64 (k : Int)) ≠ .int .i64 (x.1 : Int) := fun e => h (by cases e; omega)
      rw [if_neg h, has_put_other hne]
      rcases ih with ⟨h1, h2⟩ | ⟨j, hj, h1, h2, h3⟩
      · exact .inl ⟨h1, h2⟩
      · refine .inr ⟨j, by rw [List.length_append]; omega, h1, fun z => by rw [atKey_put_other hne]; exact h2 z, ?_⟩
        rw [h3, List.getElem_append_left hj]

/-! ### how it lies -/
def cells (sv wv : Value) (mb : Nat) (σ : Bl.St) : List Value := [sv, wv, .map (some mb), .bool σ.down, .int .i64 (σ.armed : Int), .int .i64 (σ.acts : Int), .int .i64 (σ.epochs : Int)]
abbrev ownsLast (W : World) (mb n : Nat) (D : DataW Unit) : Prop := W.ownsMap Try.prog 3 (plainElem Try.prog 3) mb n D
/-- the program's disk lies at block b, in blocks of S, from B0 on -/
structure Rows (B0 b : Nat) (S : Sq.Blocks) (σ : Bl.St) (W : World) (sv wv : Value) (mb : Nat) : Prop where
  obj : Ob.Obj W b 58 (cells sv wv mb σ)
  safe : W.ownsRow B0 9 1 sv σ.safe.length (strCells σ.safe)
  wait : W.ownsRow B0 61 2 wv σ.wait.length (wCells σ.wait)
  last : ownsLast W mb σ.wait.length (mapOf σ.wait)
  inb : S b
  ins : ∀ g, sv.ownBlock = some g → S g
  inw : ∀ g, wv.ownBlock = some g → S g
  inm : S mb
  lo : ∀ k, S k → B0 ≤ k ∧ k < W.heap.size
def At (B0 b : Nat) (S : Sq.Blocks) (σ : Bl.St) (W : World) : Prop := ∃ sv wv mb, Rows B0 b S σ W sv wv mb

theorem ownsMap_kept {T : Sq.Blocks} {W W' : World} {mb n : Nat} {D : DataW Unit} (h : ownsLast W mb n D) (hk : Sq.Kept T W W') (hT : T mb) : ownsLast W' mb n D := by
  have hl := h.lt
  obtain ⟨es, clock, hb, r⟩ := h
  exact ⟨es, clock, (hk.block mb hT hl).trans hb, r⟩
theorem obj_not_map {W : World} {b mb n : Nat} {t : TypeId} {cs : List Value} {D : DataW Unit} (h : Ob.Obj W b t cs) (hm : ownsLast W mb n D) : b ≠ mb := by
  rintro rfl
  obtain ⟨es, clock, hb, _⟩ := hm
  have := (show W.heap[b]? = _ from h).symm.trans hb
  simp at this
theorem row_not_map {W : World} {mb n : Nat} {D : DataW Unit} (hm : ownsLast W mb n D) {base size m : Nat} {e : TypeId} {v : Value} {xs : List Value} (hr : W.ownsRow base e size v m xs) : v.ownBlock ≠ some mb := by
  rcases hr.2 with ⟨rfl, _⟩ | ⟨g, cap, cur, rfl, _, hgb, _⟩
  · simp [Value.ownBlock]
  · intro e'
    obtain rfl : g = mb := by simpa [Value.ownBlock] using e'
    obtain ⟨es, clock, hb, _⟩ := hm
    rw [hgb] at hb
    simp at hb
variable {B0 b mb : Nat} {S : Sq.Blocks} {σ σ' : Bl.St} {W W' : World} {sv wv : Value}
theorem Rows.kept (h : Rows B0 b S σ W sv wv mb) (hk : Sq.Kept S W W') : Rows B0 b S σ W' sv wv mb :=
  ⟨h.obj.kept hk h.inb, Sq.row_kept h.safe hk h.ins, Sq.row_kept h.wait hk h.inw, ownsMap_kept h.last hk h.inm, h.inb, h.ins, h.inw, h.inm, fun k hk' => ⟨(h.lo k hk').1, Nat.lt_of_lt_of_le (h.lo k hk').2 hk.size⟩⟩
theorem kept (h : At B0 b S σ W) (hk : Sq.Kept S W W') : At B0 b S σ W' := by
  obtain ⟨sv, wv, mb, h⟩ := h; exact ⟨sv, wv, mb, h.kept hk⟩
theorem lo (h : At B0 b S σ W) : ∀ k, S k → B0 ≤ k ∧ k < W.heap.size := by
  obtain ⟨sv, wv, mb, h⟩ := h; exact h.lo
/-- a store into the object leaves the rest -/
theorem Rows.store (h : Rows B0 b S σ W sv wv mb) {j : Nat} {v : Value} (hc : (cells sv wv mb σ).set j v = cells sv wv mb σ') (hs : σ'.safe = σ.safe) (hw : σ'.wait = σ.wait) :
    Rows B0 b S σ' (W.setCell ⟨b, j, none⟩ v) sv wv mb :=
  ⟨by rw [← hc]; exact h.obj.set j v, by rw [hs]; exact Ob.row_other h.safe (h.obj.not_row (by decide) h.safe) v, by rw [hw]; exact Ob.row_other h.wait (h.obj.not_row (by decide) h.wait) v,
    by rw [hw]; exact h.last.setCell (a := ⟨b, j, none⟩) (obj_not_map h.obj h.last).symm v, h.inb, h.ins, h.inw, h.inm,
    fun k hk => ⟨(h.lo k hk).1, by have := (h.lo k hk).2; simp [World.setCell]; exact this⟩⟩
theorem Rows.step (h : Rows B0 b S σ W sv wv mb) (j : Nat) (v : Value) : Sq.Step S S W (W.setCell ⟨b, j, none⟩ v) := Sq.Step.setCell W v h.inb
/-- a store into the row of safe blocks -/
theorem Rows.storeSafe {g cap : Nat} (h : Rows B0 b S σ W (.slice (some ⟨g, 0, none⟩) σ.safe.length cap) wv mb) (k : Nat) (hk : k < σ.safe.length) (d : Bl.Dat) :
    Rows B0 b S { σ with safe := σ.safe.set k d } (W.setCell ⟨g, k, none⟩ (.string (Cd.bs d))) (.slice (some ⟨g, 0, none⟩) σ.safe.length cap) wv mb ∧ Sq.Step S S W (W.setCell ⟨g, k, none⟩ (.string (Cd.bs d))) := by
  have hg : S g := h.ins g rfl
  have hbg : b ≠ g := fun e => by subst e; exact h.obj.not_row (by decide) h.safe rfl
  have hmg : mb ≠ g := fun e => by subst e; exact row_not_map h.last h.safe rfl
  have hs := World.ownsRow.stored h.safe k (.string (Cd.bs d))
  refine ⟨⟨?_, ?_, ?_, ?_, h.inb, h.ins, h.inw, h.inm, fun k' hk' => ?_⟩, Sq.Step.setCell W _ hg⟩
  · exact h.obj.other hbg _
  · have := hs.1
    rw [strCells_set] at this
    simpa using this
  · exact Ob.row_other h.wait (fun e => Ob.rows_apart h.safe h.wait (by decide) g rfl e) _
  · exact h.last.setCell (a := ⟨g, k, none⟩) hmg _
  · have := h.lo k' hk'; simp only [World.setCell, Array.size_modify]; exact this

set_option maxRecDepth 100000 in
set_option maxHeartbeats 1000000 in
theorem outage_any (h : Rows B0 b S σ W sv wv mb) :
    Calls Try.prog 38 #[.pointer (some ⟨b, 0, none⟩)] W fun e w' => e = .returned (.int .i64 (if σ.down then 4 else 0)) ∧ W = w' := by
  have c3 := h.obj.cell 3
  simp [cells] at c3
  by_cases hd : σ.down = true
  · rw [if_pos hd]
    rw [hd] at c3
    clear hd
    go_enter Try.func38, Try.ntmps38
    go_wp2_with fail
    go_ret
    exact ⟨rfl, rfl⟩
  · rw [if_neg hd]
    have hdf : σ.down = false := by simpa using hd
    rw [hdf] at c3
    clear hd hdf
    go_enter Try.func38, Try.ntmps38
    go_wp2_with fail
    go_ret
    exact ⟨rfl, rfl⟩

/-- why a block may not be read or written -/
def why (σ : Bl.St) (i : Int) : Int := if σ.down then 4 else if Bl.inR σ i then 0 else 1

set_option maxRecDepth 100000 in
set_option maxHeartbeats 1000000 in
theorem refusal_any (h : Rows B0 b S σ W sv wv mb) (i : Int) (hi : -9223372036854775808 ≤ i ∧ i ≤ 9223372036854775807) :
    Calls Try.prog 33 #[.pointer (some ⟨b, 0, none⟩), .int .i64 i] W fun e w' => e = .returned (.int .i64 (why σ i)) ∧ W = w' := by
  obtain ⟨ao, cap, rfl, _⟩ := Sq.row_cases h.safe
  have c0 := h.obj.cell 0
  simp [cells] at c0
  have hO := outage_any h
  obtain ⟨i1, i2⟩ := hi
  by_cases hd : σ.down = true
  · have e : why σ i = 4 := by unfold why; rw [if_pos hd]
    rw [if_pos hd] at hO
    rw [e]
    have HO := Lib.hid hO
    clear hd e hO
    go_enter Try.func33, Try.ntmps33
    go_wp2_with (go_at_call 38; refine HO.out.mono ?_; rintro e w' ⟨rfl, rfl⟩)
    go_ret
    exact ⟨rfl, rfl⟩
  · rw [if_neg hd] at hO
    have HO := Lib.hid hO
    by_cases h0 : 0 ≤ i
    · by_cases h1 : i < (σ.safe.length : Int)
      · have e : why σ i = 0 := by unfold why; rw [if_neg hd, if_pos ⟨h0, h1⟩]
        rw [e]
        clear hd e hO
        go_enter Try.func33, Try.ntmps33
        go_wp2_with (go_at_call 38; refine HO.out.mono ?_; rintro e w' ⟨rfl, rfl⟩)
        go_ret
        exact ⟨rfl, rfl⟩
      · have e : why σ i = 1 := by unfold why; rw [if_neg hd, if_neg (fun hn => h1 hn.2)]
        rw [e]
        clear hd e hO
        go_enter Try.func33, Try.ntmps33
        go_wp2_with (go_at_call 38; refine HO.out.mono ?_; rintro e w' ⟨rfl, rfl⟩)
        go_ret
        exact ⟨rfl, rfl⟩
    · have e : why σ i = 1 := by unfold why; rw [if_neg hd, if_neg (fun hn => h0 hn.1)]
      rw [e]
      clear hd e hO
      go_enter Try.func33, Try.ntmps33
      go_wp2_with (go_at_call 38; refine HO.out.mono ?_; rintro e w' ⟨rfl, rfl⟩)
      go_ret
      exact ⟨rfl, rfl⟩

set_option maxRecDepth 100000 in
set_option maxHeartbeats 2000000 in
theorem act_any (h : Rows B0 b S σ W sv wv mb) (ha : σ.acts < 4611686018427387904) (hm : σ.armed ≤ 9223372036854775807) :
    Calls Try.prog 37 #[.pointer (some ⟨b, 0, none⟩)] W fun e w' => e = .returned (.int .i64 (if (Bl.act σ).2 then 4 else 0)) ∧ Rows B0 b S (Bl.act σ).1 w' sv wv mb ∧ Sq.Step S S W w' := by
  have c3 := h.obj.cell 3
  have c4 := h.obj.cell 4
  have c5 := h.obj.cell 5
  have f3 := h.obj.frozen 3
  have f4 := h.obj.frozen 4
  have f5 := h.obj.frozen 5
  simp [cells] at c3 c4 c5
  have h4 : Rows B0 b S { σ with acts := σ.acts + 1 } (W.setCell ⟨b, 5, none⟩ (.int .i64 ((σ.acts : Int) + 1))) sv wv mb := h.store (by simp [cells]) rfl rfl
  by_cases h0 : σ.armed = 0
  · have e : Bl.act σ = ({ σ with acts := σ.acts + 1 }, false) := by unfold Bl.act; rw [if_pos h0]
    have hg : ((σ.armed : Int) == 0) = true := by simp; omega
    rw [e]
    have HC := Lib.hid h0
    have st := h.step 5 (.int .i64 ((σ.acts : Int) + 1))
    clear e h0
    go_enter Try.func37, Try.ntmps37
    go_wp2_with fail
    go_ret
    exact ⟨rfl, h4, st⟩
  · have hg : ((σ.armed : Int) == 0) = false := by simp; omega
    by_cases h1 : σ.armed = 1
    · have e : Bl.act σ = ({ σ with acts := σ.acts + 1, armed := 0, down := true }, true) := by unfold Bl.act; rw [if_neg h0, if_pos h1]
      have hb : ¬ ((0 : Int) < (σ.armed : Int) - 1) := by omega
      have hp1 : (0 : Int) < (σ.armed : Int) := by omega
      rw [e]
      have h3 : Rows B0 b S { σ with acts := σ.acts + 1, armed := 0 } ((W.setCell ⟨b, 5, none⟩ (.int .i64 ((σ.acts : Int) + 1))).setCell ⟨b, 4, none⟩ (.int .i64 ((σ.armed : Int) - 1))) sv wv mb := h4.store (by simp [cells]; omega) rfl rfl
      have h2 : Rows B0 b S { σ with acts := σ.acts + 1, armed := 0, down := true } (((W.setCell ⟨b, 5, none⟩ (.int .i64 ((σ.acts : Int) + 1))).setCell ⟨b, 4, none⟩ (.int .i64 ((σ.armed : Int) - 1))).setCell ⟨b, 3, none⟩ (.bool true)) sv wv mb := h3.store (by simp [cells]) rfl rfl
      have st := ((h.step 5 (.int .i64 ((σ.acts : Int) + 1))).trans (h4.step 4 (.int .i64 ((σ.armed : Int) - 1)))).trans (h3.step 3 (.bool true))
      have H2 := Lib.hid h2
      have H1 := Lib.hid h1
      clear e h1 h0 h2 h3
      go_enter Try.func37, Try.ntmps37
      go_wp2_with fail
      go_ret
      exact ⟨rfl, H2.out, st⟩
    · have e : Bl.act σ = ({ σ with acts := σ.acts + 1, armed := σ.armed - 1 }, false) := by unfold Bl.act; rw [if_neg h0, if_neg h1]
      have hb : ((0 : Int) < (σ.armed : Int) - 1) := by omega
      have hp1 : (0 : Int) < (σ.armed : Int) := by omega
      rw [e]
      have h3 : Rows B0 b S { σ with acts := σ.acts + 1, armed := σ.armed - 1 } ((W.setCell ⟨b, 5, none⟩ (.int .i64 ((σ.acts : Int) + 1))).setCell ⟨b, 4, none⟩ (.int .i64 ((σ.armed : Int) - 1))) sv wv mb := h4.store (by simp [cells]; omega) rfl rfl
      have st := (h.step 5 (.int .i64 ((σ.acts : Int) + 1))).trans (h4.step 4 (.int .i64 ((σ.armed : Int) - 1)))
      have H3 := Lib.hid h3
      clear e h1 h0 h3
      go_enter Try.func37, Try.ntmps37
      go_wp2_with fail
      go_ret
      exact ⟨rfl, H3.out, st⟩

set_option maxRecDepth 100000 in
set_option maxHeartbeats 1000000 in
theorem settle_any {t1 t2 : Value} {r : List Value} (h : Ob.Obj W b 58 (sv :: t1 :: t2 :: r)) :
    Calls Try.prog 27 #[.pointer (some ⟨b, 0, none⟩)] W fun e w' => (∃ v, e = .returned v) ∧ Ob.Obj w' b 58 (sv :: .slice none 0 0 :: .map (some W.heap.size) :: r) ∧ ownsLast w' W.heap.size 0 (.map []) ∧ Sq.Kept (fun k => k ≠ b) W w' ∧ W.heap.size < w'.heap.size := by
  have hmm := @run_makeMap Try.prog
  have c1 := h.cell 1
  have c2 := h.cell 2
  have f1 := h.frozen 1
  have f2 := h.frozen 2
  simp at c1 c2
  have hl := h.lt
  have h1 := ((h.set 1 (.slice none 0 0)).set 2 (.map (some W.heap.size))).alloc (.map #[] 0)
  have hm : ownsLast (((W.setCell ⟨b, 1, none⟩ (.slice none 0 0)).setCell ⟨b, 2, none⟩ (.map (some W.heap.size))).alloc (.map #[] 0)) W.heap.size 0 (.map []) := by
    have := World.ownsMap_made (H := Unit) ((W.setCell ⟨b, 1, none⟩ (.slice none 0 0)).setCell ⟨b, 2, none⟩ (.map (some W.heap.size))) Try.prog 3 (plainElem Try.prog 3)
    have e : ((W.setCell ⟨b, 1, none⟩ (.slice none 0 0)).setCell ⟨b, 2, none⟩ (.map (some W.heap.size))).heap.size = W.heap.size := by simp [World.setCell]
    rw [e] at this; exact this
  have hk : Sq.Kept (fun k => k ≠ b) W (((W.setCell ⟨b, 1, none⟩ (.slice none 0 0)).setCell ⟨b, 2, none⟩ (.map (some W.heap.size))).alloc (.map #[] 0)) :=
    ((Sq.Kept.setCell _ _ (fun hn => hn rfl)).trans (Sq.Kept.setCell _ _ (fun hn => hn rfl))).trans (Sq.Kept.alloc _ _ _)
  have H1 := Lib.hid h1
  have HM := Lib.hid hm
  have HK := Lib.hid hk
  clear h1 hm hk h
  go_enter Try.func27, Try.ntmps27
  go_wp2_with fail
  go_end0
  exact ⟨⟨_, rfl⟩, H1.out, HM.out, HK.out, by simp [World.setCell]⟩

end Bd
end Go.Proofs.Ytdidcopfkjnkdaa
