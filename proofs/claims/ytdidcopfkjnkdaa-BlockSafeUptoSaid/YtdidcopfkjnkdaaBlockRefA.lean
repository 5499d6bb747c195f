/-
  The document's disk (tapestryref03): how it lies in memory; Is, act, Arm, Read.
-/
import Derived.Test.YtdidcopfkjnkdaaObj
import Derived.Test.YtdidcopfkjnkdaaBlockPlain
import Derived.Test.YtdidcopfkjnkdaaCodecText
import Derived.WalkKit
import Derived.Below
import Derived.StillTailTactics
namespace Go.Proofs.Ytdidcopfkjnkdaa
open Go.RowKit
set_option linter.unusedSimpArgs false
set_option linter.unusedVariables false

def strCells (l : List Bl.Dat) : List Value := l.map fun d => .string (Cd.bs d)
def wCells (l : List (Nat × Bl.Dat)) : List Value := (l.map fun x => [Value.int .i64 (x.1 : Int), .string (Cd.bs x.2)]).flatten
theorem strCells_get (l : List Bl.Dat) (i : Nat) (h : i < l.length) : (strCells l)[i]? = some (.string (Cd.bs l[i])) := by simp [strCells, h]
theorem strCells_set (l : List Bl.Dat) (i : Nat) (d : Bl.Dat) : (strCells l).set i (.string (Cd.bs d)) = strCells (l.set i d) := by simp [strCells, List.map_set]
theorem wCells_snoc (l : List (Nat × Bl.Dat)) (x : Nat × Bl.Dat) : wCells (l ++ [x]) = wCells l ++ [.int .i64 (x.1 : Int), .string (Cd.bs x.2)] := by simp [wCells]
theorem wCells_get (l : List (Nat × Bl.Dat)) (i : Nat) (h : i < l.length) : (wCells l)[i * 2]? = some (.int .i64 (l[i].1 : Int)) ∧ (wCells l)[i * 2 + 1]? = some (.string (Cd.bs l[i].2)) := by
  induction l generalizing i with
  | nil => simp at h
  | cons y r ih =>
    have e : wCells (y :: r) = .int .i64 (y.1 : Int) :: .string (Cd.bs y.2) :: wCells r := by simp [wCells]
    cases i with
    | zero => rw [e]; exact ⟨rfl, rfl⟩
    | succ i =>
      have := ih i (by simpa using h)
      rw [e, show (i + 1) * 2 = i * 2 + 1 + 1 from by omega]
      simpa using this

def refCells (sv wv : Value) (σ : Bl.St) : List Value := [sv, wv, .bool σ.down, .int .i64 (σ.armed : Int), .int .i64 (σ.acts : Int), .int .i64 (σ.epochs : Int)]
/-- the document's disk lies at block b, in blocks of S, from B0 on -/
structure RefRows (B0 b : Nat) (S : Sq.Blocks) (σ : Bl.St) (W : World) (sv wv : Value) : Prop where
  obj : Ob.Obj W b 40 (refCells sv wv σ)
  safe : W.ownsRow B0 9 1 sv σ.safe.length (strCells σ.safe)
  wait : W.ownsRow B0 64 2 wv σ.wait.length (wCells σ.wait)
  inb : S b
  ins : ∀ g, sv.ownBlock = some g → S g
  inw : ∀ g, wv.ownBlock = some g → S g
  lo : ∀ k, S k → B0 ≤ k ∧ k < W.heap.size
def RefAt (B0 b : Nat) (S : Sq.Blocks) (σ : Bl.St) (W : World) : Prop := ∃ sv wv, RefRows B0 b S σ W sv wv
theorem RefRows.kept {B0 b : Nat} {S : Sq.Blocks} {σ : Bl.St} {W W' : World} {sv wv : Value} (h : RefRows B0 b S σ W sv wv) (hk : Sq.Kept S W W') : RefRows B0 b S σ W' sv wv :=
  ⟨h.obj.kept hk h.inb, Sq.row_kept h.safe hk h.ins, Sq.row_kept h.wait hk h.inw, h.inb, h.ins, h.inw, fun k hk' => ⟨(h.lo k hk').1, Nat.lt_of_lt_of_le (h.lo k hk').2 hk.size⟩⟩
theorem RefAt.kept {B0 b : Nat} {S : Sq.Blocks} {σ : Bl.St} {W W' : World} (h : RefAt B0 b S σ W) (hk : Sq.Kept S W W') : RefAt B0 b S σ W' := by
  obtain ⟨sv, wv, h⟩ := h; exact ⟨sv, wv, h.kept hk⟩

set_option maxRecDepth 100000 in
set_option maxHeartbeats 1000000 in
theorem refIs_any {B0 b : Nat} {S : Sq.Blocks} {σ : Bl.St} {W : World} {sv wv : Value} (h : RefRows B0 b S σ W sv wv) (i : Int) (hi : -9223372036854775808 ≤ i ∧ i ≤ 9223372036854775807) :
    Calls Try.prog 45 #[.pointer (some ⟨b, 0, none⟩), .int .i64 i] W fun e w' => e = .returned (.bool (decide (Bl.inR σ i))) ∧ W = w' := by
  obtain ⟨ao, cap, rfl, _⟩ := Sq.row_cases h.safe
  have c0 := h.obj.cell 0
  simp [refCells] at c0
  obtain ⟨i1, i2⟩ := hi
  by_cases h0 : 0 ≤ i
  · by_cases h1 : i < (σ.safe.length : Int)
    · rw [decide_eq_true (show Bl.inR σ i from ⟨h0, h1⟩)]
      go_enter Try.func45, Try.ntmps45
      go_wp2_with fail
      go_ret
      exact ⟨rfl, rfl⟩
    · rw [decide_eq_false (show ¬ Bl.inR σ i from fun hn => h1 hn.2)]
      go_enter Try.func45, Try.ntmps45
      go_wp2_with fail
      go_ret
      exact ⟨rfl, rfl⟩
  · rw [decide_eq_false (show ¬ Bl.inR σ i from fun hn => h0 hn.1)]
    go_enter Try.func45, Try.ntmps45
    go_wp2_with fail
    go_ret
    exact ⟨rfl, rfl⟩

/-- a store into the object leaves the rest -/
theorem RefRows.store {B0 b : Nat} {S : Sq.Blocks} {σ σ' : Bl.St} {W : World} {sv wv : Value} (h : RefRows B0 b S σ W sv wv) {j : Nat} {v : Value} (hc : (refCells sv wv σ).set j v = refCells sv wv σ') (hs : σ'.safe = σ.safe) (hw : σ'.wait = σ.wait) :
    RefRows B0 b S σ' (W.setCell ⟨b, j, none⟩ v) sv wv :=
  ⟨by rw [← hc]; exact h.obj.set j v, by rw [hs]; exact Ob.row_other h.safe (h.obj.not_row (by decide) h.safe) v, by rw [hw]; exact Ob.row_other h.wait (h.obj.not_row (by decide) h.wait) v, h.inb, h.ins, h.inw,
    fun k hk => ⟨(h.lo k hk).1, by have := (h.lo k hk).2; simp [World.setCell]; exact this⟩⟩
theorem RefRows.step {B0 b : Nat} {S : Sq.Blocks} {σ : Bl.St} {W : World} {sv wv : Value} (h : RefRows B0 b S σ W sv wv) (j : Nat) (v : Value) : Sq.Step S S W (W.setCell ⟨b, j, none⟩ v) := Sq.Step.setCell W v h.inb

set_option maxRecDepth 100000 in
set_option maxHeartbeats 2000000 in
theorem refAct_any {B0 b : Nat} {S : Sq.Blocks} {σ : Bl.St} {W : World} {sv wv : Value} (h : RefRows B0 b S σ W sv wv) (ha : σ.acts < 4611686018427387904) (hm : σ.armed ≤ 9223372036854775807) :
    Calls Try.prog 46 #[.pointer (some ⟨b, 0, none⟩)] W fun e w' => e = .returned (.bool (Bl.act σ).2) ∧ RefRows B0 b S (Bl.act σ).1 w' sv wv ∧ Sq.Step S S W w' := by
  have c2 := h.obj.cell 2
  have c3 := h.obj.cell 3
  have c4 := h.obj.cell 4
  have f2 := h.obj.frozen 2
  have f3 := h.obj.frozen 3
  have f4 := h.obj.frozen 4
  simp [refCells] at c2 c3 c4
  have h4 : RefRows B0 b S { σ with acts := σ.acts + 1 } (W.setCell ⟨b, 4, none⟩ (.int .i64 ((σ.acts : Int) + 1))) sv wv := h.store (by simp [refCells]) rfl rfl
  by_cases h0 : σ.armed = 0
  · have e : Bl.act σ = ({ σ with acts := σ.acts + 1 }, false) := by unfold Bl.act; rw [if_pos h0]
    have hg : decide ((σ.armed : Int) > 0) = false := by simp; omega
    have hg2 : decide (0 < σ.armed) = false := by simp; omega
    rw [e]
    clear e
    have H0 := Lib.hid h0
    clear h0
    go_enter Try.func46, Try.ntmps46
    go_wp2_with fail
    go_ret
    exact ⟨rfl, h4, h.step 4 _⟩
  · have hg : decide ((σ.armed : Int) > 0) = true := by simp; omega
    have hg2 : decide (0 < σ.armed) = true := by simp; omega
    have hp1 : (0 : Int) < (σ.armed : Int) := by omega
    by_cases h1 : σ.armed = 1
    · have e : Bl.act σ = ({ σ with acts := σ.acts + 1, armed := 0, down := true }, true) := by unfold Bl.act; rw [if_neg h0, if_pos h1]
      have hb : (((σ.armed : Int) - 1) == 0) = true := by simp; omega
      rw [e]
      have h3 : RefRows B0 b S { σ with acts := σ.acts + 1, armed := 0 } ((W.setCell ⟨b, 4, none⟩ (.int .i64 ((σ.acts : Int) + 1))).setCell ⟨b, 3, none⟩ (.int .i64 ((σ.armed : Int) - 1))) sv wv := h4.store (by simp [refCells]; omega) rfl rfl
      have h2 : RefRows B0 b S { σ with acts := σ.acts + 1, armed := 0, down := true } (((W.setCell ⟨b, 4, none⟩ (.int .i64 ((σ.acts : Int) + 1))).setCell ⟨b, 3, none⟩ (.int .i64 ((σ.armed : Int) - 1))).setCell ⟨b, 2, none⟩ (.bool true)) sv wv := h3.store (by simp [refCells]) rfl rfl
      have st := ((h.step 4 (.int .i64 ((σ.acts : Int) + 1))).trans (h4.step 3 (.int .i64 ((σ.armed : Int) - 1)))).trans (h3.step 2 (.bool true))
      have H2 := Lib.hid h2
      have H1 := Lib.hid h1
      clear e h1 h0 h2 h3
      go_enter Try.func46, Try.ntmps46
      go_wp2_with fail
      go_ret
      exact ⟨rfl, H2.out, st⟩
    · have e : Bl.act σ = ({ σ with acts := σ.acts + 1, armed := σ.armed - 1 }, false) := by unfold Bl.act; rw [if_neg h0, if_neg h1]
      have hb : (((σ.armed : Int) - 1) == 0) = false := by simp; omega
      rw [e]
      have h3 : RefRows B0 b S { σ with acts := σ.acts + 1, armed := σ.armed - 1 } ((W.setCell ⟨b, 4, none⟩ (.int .i64 ((σ.acts : Int) + 1))).setCell ⟨b, 3, none⟩ (.int .i64 ((σ.armed : Int) - 1))) sv wv := h4.store (by simp [refCells]; omega) rfl rfl
      have st := (h.step 4 (.int .i64 ((σ.acts : Int) + 1))).trans (h4.step 3 (.int .i64 ((σ.armed : Int) - 1)))
      have H3 := Lib.hid h3
      clear e h1 h0 h3
      go_enter Try.func46, Try.ntmps46
      go_wp2_with fail
      go_ret
      exact ⟨rfl, H3.out, st⟩
end Go.Proofs.Ytdidcopfkjnkdaa
