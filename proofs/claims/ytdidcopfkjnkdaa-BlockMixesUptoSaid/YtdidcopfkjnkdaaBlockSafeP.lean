/-
  Plain: writes to an unarmed disk, and what a loss of power leaves of them.
-/
import Derived.Test.YtdidcopfkjnkdaaBlockPlays
namespace Go.Proofs.Ytdidcopfkjnkdaa
open Go.RowKit
set_option linter.unusedSimpArgs false
set_option linter.unusedVariables false
namespace Bl
/-- a disk of forty blocks that nobody armed, behind k acts -/
structure WInv (k : Nat) (σ : St) : Prop where
  ok : Ok σ
  len : σ.safe.length = 40
  wait : σ.wait.length ≤ k
  up : σ.down = false
  armed : σ.armed = 0
  acts : σ.acts ≤ k
  epochs : σ.epochs = 0
theorem WInv.new : WInv 0 (Bl.new 40) := ⟨new_ok (by omega), by simp [Bl.new], by simp [Bl.new], rfl, rfl, by simp [Bl.new], rfl⟩
theorem WInv.bnd {k : Nat} {σ : St} (h : WInv k σ) (hk : k ≤ 1073741824) : Bnd σ := ⟨h.ok, by have := h.wait; omega, by have := h.acts; omega, by rw [h.epochs]; omega⟩
theorem act_free {σ : St} (h : σ.armed = 0) : act σ = ({ σ with acts := σ.acts + 1 }, false) := by unfold act; rw [if_pos h]
theorem write_free {σ : St} {k : Nat} (h : WInv k σ) (i : Int) (s : Dat) :
    (write σ i s).1 = if inR σ i ∧ s.length = 256 then { σ with wait := σ.wait ++ [(i.toNat, s)], acts := σ.acts + 1 } else σ := by
  unfold write
  rw [if_neg (by simp [h.up])]
  split
  · simp only [act_free (σ := { σ with wait := σ.wait ++ [(i.toNat, s)] }) h.armed]
  · rfl
theorem WInv.write {k : Nat} {σ : St} (h : WInv k σ) (i : Int) (s : Dat) : WInv (k + 1) (write σ i s).1 := by
  have nr := Near.write h.ok i s
  refine ⟨nr.ok, nr.safe.trans h.len, by have := nr.wait; have := h.wait; omega, ?_, ?_, by have := nr.acts; have := h.acts; omega, ?_⟩
  · rw [write_free h]; split <;> exact h.up
  · rw [write_free h]; split <;> exact h.armed
  · rw [write_free h]; split <;> exact h.epochs
theorem write_safe {k : Nat} {σ : St} (h : WInv k σ) (i : Int) (s : Dat) : (Bl.write σ i s).1.safe = σ.safe := by rw [write_free h]; split <;> rfl
theorem write_mem {k : Nat} {σ : St} (h : WInv k σ) (i : Int) (s : Dat) : ∀ x ∈ (Bl.write σ i s).1.wait, x ∈ σ.wait ∨ ((x.1 : Int) = i ∧ x.2 = s) := by
  rw [write_free h]
  intro x hx
  split at hx
  · rename_i hi
    rcases List.mem_append.1 hx with hx | hx
    · exact .inl hx
    · simp at hx; subst hx; exact .inr ⟨by have := hi.1.1; simp only; omega, rfl⟩
  · exact .inl hx
theorem WInv.sync {k : Nat} {σ : St} (h : WInv k σ) : WInv (k + 1) (sync σ).1 ∧ (Bl.sync σ).2 = 0 ∧ (Bl.sync σ).1.wait = [] := by
  have e : Bl.sync σ = ({ σ with acts := σ.acts + 1, safe := setAll σ.safe σ.wait, wait := [] }, 0) := by
    unfold Bl.sync
    rw [if_neg (by simp [h.up]), act_free h.armed]; rfl
  have nr := Near.sync h.ok
  refine ⟨⟨nr.ok, nr.safe.trans h.len, by have := nr.wait; have := h.wait; omega, by rw [e]; exact h.up, by rw [e]; exact h.armed, by have := nr.acts; have := h.acts; omega, by rw [e]; exact h.epochs⟩, by rw [e], by rw [e]⟩
theorem read_free {σ : St} (hd : σ.down = false) (hw : σ.wait = []) (j : Nat) (hj : j < σ.safe.length) : read σ (j : Int) = (σ.safe.getD j [], 0) := by
  unfold read
  rw [hd, if_neg (by simp), if_pos ⟨by omega, by omega⟩]
  unfold readOf
  rw [hw]; rfl
theorem set_getD (l : List Dat) (i j : Nat) (d : Dat) : (l.set i d).getD j [] = if i = j ∧ i < l.length then d else l.getD j [] := by
  simp only [List.getD_eq_getElem?_getD, List.getElem?_set]
  by_cases h : i = j
  · subst h
    by_cases h2 : i < l.length
    · simp [h2]
    · simp [h2]
  · simp [h]
theorem keepOne_other {keep : List Bool} {torn : Int} {n : Nat} {l : List Dat} {k : Nat} {x : Nat × Dat} {j : Nat} (h : x.1 ≠ j) : (keepOne keep torn n l k x).getD j [] = l.getD j [] := by
  unfold keepOne
  split
  · rw [set_getD, if_neg (fun e => h e.1)]
  · split
    · rw [set_getD, if_neg (fun e => h e.1)]
    · rfl
theorem keepGo_other {keep : List Bool} {torn : Int} {n : Nat} {j : Nat} : ∀ (wait : List (Nat × Dat)) (k : Nat) (l : List Dat), (∀ x ∈ wait, x.1 ≠ j) → (keepGo keep torn n k wait l).getD j [] = l.getD j []
  | [], _, _, _ => rfl
  | x :: r, k, l, h => (keepGo_other r (k + 1) _ fun y hy => h y (List.mem_cons_of_mem _ hy)).trans (keepOne_other (h x (List.mem_cons_self ..)))
/-- of one pending write: whole, but for the one that tears -/
theorem keepOne_whole {keep : List Bool} {torn : Int} {n : Nat} {l : List Dat} {k : Nat} {x : Nat × Dat} {j : Nat} (h : (k : Int) ≠ torn) : (keepOne keep torn n l k x).getD j [] = l.getD j [] ∨ (x.1 = j ∧ (keepOne keep torn n l k x).getD j [] = x.2) := by
  unfold keepOne
  rw [if_neg h]
  split
  · rw [set_getD]
    split
    · rename_i e; exact .inr ⟨e.1, rfl⟩
    · exact .inl rfl
  · exact .inl rfl
theorem keepGo_whole {keep : List Bool} {torn : Int} {n : Nat} {j : Nat} : ∀ (wait : List (Nat × Dat)) (k : Nat) (l : List Dat), (∀ i (h : i < wait.length), ((k + i : Nat) : Int) = torn → (wait[i]).1 ≠ j) →
    (keepGo keep torn n k wait l).getD j [] = l.getD j [] ∨ ∃ x ∈ wait, x.1 = j ∧ (keepGo keep torn n k wait l).getD j [] = x.2
  | [], _, _, _ => .inl rfl
  | x :: r, k, l, h => by
    have hr := keepGo_whole (keep := keep) (torn := torn) (n := n) (j := j) r (k + 1) (keepOne keep torn n l k x) (fun i hi he => h (i + 1) (by simpa using hi) (by rw [← he]; congr 1; omega))
    have h1 : (keepOne keep torn n l k x).getD j [] = l.getD j [] ∨ (x.1 = j ∧ (keepOne keep torn n l k x).getD j [] = x.2) := by
      by_cases ht : (k : Int) = torn
      · exact .inl (keepOne_other (h 0 (by simp) (by simpa using ht)))
      · exact keepOne_whole ht
    rcases hr with hr | ⟨y, hy, e1, e2⟩
    · rcases h1 with h1 | ⟨e1, e2⟩
      · exact .inl (hr.trans h1)
      · exact .inr ⟨x, List.mem_cons_self .., e1, hr.trans e2⟩
    · exact .inr ⟨y, List.mem_cons_of_mem _ hy, e1, e2⟩
/-- behind a loss of power: one block at most is not whole -/
theorem crash_whole (σ : St) (keep : List Bool) (torn bytes : Int) : ∃ t : Nat, ∀ j, j ≠ t → (crash σ keep torn bytes).safe.getD j [] = σ.safe.getD j [] ∨ ∃ x ∈ σ.wait, x.1 = j ∧ (crash σ keep torn bytes).safe.getD j [] = x.2 := by
  by_cases ht : 0 ≤ torn ∧ torn < σ.wait.length
  · refine ⟨(σ.wait[torn.toNat]'(by omega)).1, fun j hj => keepGo_whole σ.wait 0 σ.safe fun i hi he => ?_⟩
    have : i = torn.toNat := by omega
    subst this
    exact fun e => hj e.symm
  · exact ⟨0, fun j hj => keepGo_whole σ.wait 0 σ.safe fun i hi he => by omega⟩
end Bl
end Go.Proofs.Ytdidcopfkjnkdaa
