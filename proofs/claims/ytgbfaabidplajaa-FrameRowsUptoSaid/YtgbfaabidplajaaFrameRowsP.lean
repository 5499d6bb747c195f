/-
  Plain mathematics of frames one behind the other (P2.5).
-/
import Derived.Test.YtgbfaabidplajaaFrameSeqP
namespace Go.Proofs.Ytgbfaabidplajaa
namespace Fr
open Go.RowKit

def okF (f : Fm) : Bool := decide (f.1.toNat ≠ 0) && decide (f.2.length ≤ 262144)
theorem okF_iff {f : Fm} : okF f = true ↔ ¬ f.1.toNat = 0 ∧ f.2.length ≤ 262144 := by simp [okF]
/-- what frames are as bytes, those that have none left out -/
def rowB (l : List Fm) : List UInt8 := l.flatMap fun f => (put f.1 f.2).1
def kept (l : List Fm) : List Fm := l.filter okF
theorem put_bad {f : Fm} (h : ¬ okF f = true) : put f.1 f.2 = ([], 1) := by
  unfold put
  rw [if_pos]
  rw [okF_iff] at h
  omega
theorem rowB_snoc (l : List Fm) (f : Fm) : rowB (l ++ [f]) = rowB l ++ (put f.1 f.2).1 := by simp [rowB]
theorem kept_ok (l : List Fm) {f : Fm} (h : okF f = true) : kept (l ++ [f]) = kept l ++ [f] := by simp [kept, h]
theorem kept_bad (l : List Fm) {f : Fm} (h : ¬ okF f = true) : kept (l ++ [f]) = kept l := by simp [kept, h]
theorem put_len15 (f : Fm) : (put f.1 f.2).1.length ≤ 15 * (f.2.length + 1) := by
  by_cases h : okF f = true
  · obtain ⟨h1, h2⟩ := okF_iff.1 h
    have := Cd.putU_len10 f.2.length (by omega)
    rw [put_ok h1 h2]; simp only; rw [litlen, Cd.putT, List.length_append]; omega
  · rw [put_bad h]; simp
def bulkF (l : List Fm) : Nat := (l.map fun f => f.2.length + 1).sum
theorem rowB_len (l : List Fm) : (rowB l).length ≤ 15 * bulkF l := by
  induction l with
  | nil => simp [rowB, bulkF]
  | cons f r ih =>
    have h1 := put_len15 f
    have e1 : rowB (f :: r) = (put f.1 f.2).1 ++ rowB r := by simp [rowB]
    have e2 : bulkF (f :: r) = (f.2.length + 1) + bulkF r := by simp [bulkF]
    rw [e1, e2, List.length_append]; omega
theorem bulkF_take (l : List Fm) (k : Nat) : bulkF (l.take k) ≤ bulkF l := by
  induction l generalizing k with
  | nil => simp [bulkF]
  | cons f r ih =>
    cases k with
    | zero => simp [bulkF]
    | succ k =>
      have := ih k
      have e2 : ∀ r : List Fm, bulkF (f :: r) = (f.2.length + 1) + bulkF r := fun r => by simp [bulkF]
      rw [List.take_succ_cons, e2, e2]; omega
theorem bulkF_len (l : List Fm) : l.length ≤ bulkF l := by
  induction l with
  | nil => simp [bulkF]
  | cons f r ih =>
    have e2 : bulkF (f :: r) = (f.2.length + 1) + bulkF r := by simp [bulkF]
    rw [e2, List.length_cons]; omega
theorem bulkF_mem {l : List Fm} {f : Fm} (h : f ∈ l) : f.2.length + 1 ≤ bulkF l := by
  induction l with
  | nil => cases h
  | cons g r ih =>
    have e2 : bulkF (g :: r) = (g.2.length + 1) + bulkF r := by simp [bulkF]
    rw [e2]
    rcases List.mem_cons.1 h with rfl | h
    · omega
    · have := ih h; omega
theorem kept_len (l : List Fm) : (kept l).length ≤ l.length := List.length_filter_le _ _

/-- frames one behind the other are told as they were put -/
theorem allGo_rows (r : List UInt8) : ∀ (M : List Fm) (P : List UInt8), ∃ A : List (Nat × Fm), A.map (·.2) = kept M ∧
    allGo (P ++ (rowB M ++ r)) P.length = (A ++ (allGo (P ++ (rowB M ++ r)) (P.length + (rowB M).length)).1, (allGo (P ++ (rowB M ++ r)) (P.length + (rowB M).length)).2)
  | [], P => ⟨[], rfl, by simp [rowB]⟩
  | f :: M, P => by
    have e1 : rowB (f :: M) = (put f.1 f.2).1 ++ rowB M := by simp [rowB]
    by_cases h : okF f = true
    · obtain ⟨h1, h2⟩ := okF_iff.1 h
      obtain ⟨A, hA, hE⟩ := allGo_rows r M (P ++ (put f.1 f.2).1)
      refine ⟨(P.length, f) :: A, by simp [kept, h]; simpa [kept] using hA, ?_⟩
      have e2 : P ++ (rowB (f :: M) ++ r) = P ++ ((put f.1 f.2).1 ++ (rowB M ++ r)) := by rw [e1]; simp
      have e3 : P ++ (put f.1 f.2).1 ++ (rowB M ++ r) = P ++ ((put f.1 f.2).1 ++ (rowB M ++ r)) := by simp
      have hp := allGo_put (pre := P) (r := rowB M ++ r) (c := f.1) (l := f.2) h1 h2
      rw [e3, List.length_append] at hE
      rw [e2, hp, hE, e1, List.length_append, Nat.add_assoc]
      rfl
    · obtain ⟨A, hA, hE⟩ := allGo_rows r M P
      have e2 : rowB (f :: M) = rowB M := by rw [e1, put_bad h]; rfl
      exact ⟨A, by rw [hA]; simp [kept, h], by rw [e2]; exact hE⟩
theorem all_rows (M : List Fm) (r : List UInt8) : (kept M).length ≤ (all (rowB M ++ r)).1.length ∧ (∀ i (h : i < (kept M).length) (h2 : i < (all (rowB M ++ r)).1.length), (all (rowB M ++ r)).1[i].2 = (kept M)[i]) ∧ (rowB M).length ≤ (all (rowB M ++ r)).2 ∧
    (r = [] → (all (rowB M ++ r)).2 = (rowB M).length ∧ (all (rowB M ++ r)).1.length = (kept M).length) := by
  obtain ⟨A, hA, hE⟩ := allGo_rows r M []
  simp only [List.nil_append, List.length_nil, Nat.zero_add] at hE
  have hl : A.length = (kept M).length := by rw [← hA, List.length_map]
  have hE1 : all (rowB M ++ r) = (A ++ (allGo (rowB M ++ r) (rowB M).length).1, (allGo (rowB M ++ r) (rowB M).length).2) := hE
  rw [hE1]
  refine ⟨by simp; omega, fun i h h2 => ?_, allGo_ge _ _, fun hr => ?_⟩
  · have : (kept M)[i] = A[i].2 := by simp [← hA]
    rw [this]
    simp only
    rw [List.getElem_append_left (by omega)]
  · subst hr
    rw [List.append_nil, allGo_stop (by simp)]
    simp [hl]
end Fr
end Go.Proofs.Ytgbfaabidplajaa
