/-
  Plain mathematics of going through frames: each with the place behind it, each with its place.
-/
import Derived.Test.YtgbfaabidplajaaFramePlainB
namespace Go.Proofs.Ytgbfaabidplajaa
namespace Fr

abbrev Fm := UInt8 × List UInt8
/-- the frames from a place on, each with the place behind it -/
def endsGo (l : List UInt8) (p : Nat) : List (Nat × Fm) :=
  if _h : p < l.length ∧ (take (l.drop p)).2.2 = 0 ∧ 0 < (take (l.drop p)).2.1 then
    (p + (take (l.drop p)).2.1, (take (l.drop p)).1) :: endsGo l (p + (take (l.drop p)).2.1)
  else []
termination_by l.length - p
decreasing_by all_goals omega
theorem endsGo_stop {l : List UInt8} {p : Nat} (h : ¬ (p < l.length ∧ (take (l.drop p)).2.2 = 0 ∧ 0 < (take (l.drop p)).2.1)) : endsGo l p = [] := by rw [endsGo]; rw [dif_neg h]
theorem endsGo_more {l : List UInt8} {p : Nat} (h : p < l.length ∧ (take (l.drop p)).2.2 = 0 ∧ 0 < (take (l.drop p)).2.1) :
    endsGo l p = (p + (take (l.drop p)).2.1, (take (l.drop p)).1) :: endsGo l (p + (take (l.drop p)).2.1) := by
  conv => lhs; rw [endsGo]
  rw [dif_pos h]
def shift : Nat → List (Nat × Fm) → List (Nat × Fm)
  | _, [] => []
  | p, x :: r => (p, x.2) :: shift x.1 r
def lastEnd : Nat → List (Nat × Fm) → Nat
  | p, [] => p
  | _, x :: r => lastEnd x.1 r
theorem shift_app (a b : List (Nat × Fm)) : ∀ p, shift p (a ++ b) = shift p a ++ shift (lastEnd p a) b := by
  induction a with
  | nil => intro p; rfl
  | cons x r ih => intro p; simp [shift, lastEnd, ih]
theorem lastEnd_app (a b : List (Nat × Fm)) : ∀ p, lastEnd p (a ++ b) = lastEnd (lastEnd p a) b := by
  induction a with
  | nil => intro p; rfl
  | cons x r ih => intro p; simp [lastEnd, ih]
theorem shift_snoc (p : Nat) (a : List (Nat × Fm)) (x : Nat × Fm) : shift p (a ++ [x]) = shift p a ++ [(lastEnd p a, x.2)] := by rw [shift_app]; rfl
theorem lastEnd_snoc (p : Nat) (a : List (Nat × Fm)) (x : Nat × Fm) : lastEnd p (a ++ [x]) = x.1 := by rw [lastEnd_app]; rfl
theorem shift_len (a : List (Nat × Fm)) : ∀ p, (shift p a).length = a.length := by
  induction a with
  | nil => intro p; rfl
  | cons x r ih => intro p; simp [shift, ih]
theorem allGo_shift (l : List UInt8) (p : Nat) : allGo l p = (shift p (endsGo l p), lastEnd p (endsGo l p)) := by
  by_cases h : p < l.length ∧ (take (l.drop p)).2.2 = 0 ∧ 0 < (take (l.drop p)).2.1
  · rw [allGo_more h, endsGo_more h, allGo_shift l (p + (take (l.drop p)).2.1)]; rfl
  · rw [allGo_stop h, endsGo_stop h]; rfl
termination_by l.length - p
decreasing_by all_goals omega
theorem take_load (l : List UInt8) : (take l).1.2.length ≤ 262144 := by
  obtain ⟨q1, q2, q3⟩ := takeT_len (l.drop 5) 262144
  unfold take
  split
  · simp
  · split
    · simp
    · split
      · simp
      · rename_i h
        split
        · simp
        · exact q2 (by simpa using h)
theorem endsGo_in (l : List UInt8) (p : Nat) : ∀ x ∈ endsGo l p, x.1 ≤ l.length ∧ x.2.2.length ≤ 262144 := by
  by_cases h : p < l.length ∧ (take (l.drop p)).2.2 = 0 ∧ 0 < (take (l.drop p)).2.1
  · rw [endsGo_more h]
    intro x hx
    rcases List.mem_cons.1 hx with e | hx
    · subst e
      have := (take_len (l.drop p)).1
      rw [List.length_drop] at this
      exact ⟨by simp only; omega, take_load _⟩
    · exact endsGo_in l _ x hx
  · rw [endsGo_stop h]; simp
termination_by l.length - p
decreasing_by all_goals omega
theorem lastEnd_le (N : Nat) : ∀ (a : List (Nat × Fm)) (p : Nat), p ≤ N → (∀ x ∈ a, x.1 ≤ N) → lastEnd p a ≤ N
  | [], _, h, _ => h
  | x :: r, _, _, hx => lastEnd_le N r x.1 (hx x (List.mem_cons_self ..)) (fun y hy => hx y (List.mem_cons_of_mem _ hy))
theorem shift_pre {pre L : List (Nat × Fm)} (p : Nat) (h : pre <+: L) : shift p pre <+: shift p L := by
  obtain ⟨r, rfl⟩ := h; exact ⟨_, (shift_app _ _ _).symm⟩
theorem shift_in (N : Nat) : ∀ (a : List (Nat × Fm)) (p : Nat), p ≤ N → (∀ x ∈ a, x.1 ≤ N ∧ x.2.2.length ≤ 262144) → ∀ x ∈ shift p a, x.1 ≤ N ∧ x.2.2.length ≤ 262144
  | [], _, _, _, _, h => by simp [shift] at h
  | y :: r, p, hp, ha, x, hx => by
    simp only [shift, List.mem_cons] at hx
    rcases hx with rfl | hx
    · exact ⟨hp, (ha y (List.mem_cons_self ..)).2⟩
    · exact shift_in N r y.1 (ha y (List.mem_cons_self ..)).1 (fun z hz => ha z (List.mem_cons_of_mem _ hz)) x hx
end Fr
end Go.Proofs.Ytgbfaabidplajaa
