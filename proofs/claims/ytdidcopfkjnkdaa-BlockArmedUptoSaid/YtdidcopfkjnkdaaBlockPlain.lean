/-
  Plain mathematics of chapter 3 (block): a disk as a state, and what each call makes of it.
-/
import Derived.Test.YtdidcopfkjnkdaaCodecPlain
namespace Go.Proofs.Ytdidcopfkjnkdaa
namespace Bl
open Go.RowKit

abbrev Dat := List UInt8
structure St where
  safe : List Dat
  wait : List (Nat × Dat)
  down : Bool
  armed : Nat
  acts : Nat
  epochs : Nat

def noughts : Dat := List.replicate 256 0
def new (n : Nat) : St := ⟨List.replicate n noughts, [], false, 0, 0, 0⟩
/-- the last pending write of a block -/
def lastW (wait : List (Nat × Dat)) (k : Nat) : Option Dat := (wait.reverse.find? fun x => x.1 == k).map (·.2)
def readOf (σ : St) (k : Nat) : Dat := (lastW σ.wait k).getD (σ.safe.getD k [])
def inR (σ : St) (i : Int) : Prop := 0 ≤ i ∧ i < σ.safe.length
instance (σ : St) (i : Int) : Decidable (inR σ i) := by unfold inR; infer_instance
def read (σ : St) (i : Int) : Dat × Nat := if σ.down then ([], 4) else if inR σ i then (readOf σ i.toNat, 0) else ([], 1)
/-- the power of an act: the state behind it, and whether it goes -/
def act (σ : St) : St × Bool :=
  if σ.armed = 0 then ({ σ with acts := σ.acts + 1 }, false)
  else if σ.armed = 1 then ({ σ with acts := σ.acts + 1, armed := 0, down := true }, true)
  else ({ σ with acts := σ.acts + 1, armed := σ.armed - 1 }, false)
def write (σ : St) (i : Int) (s : Dat) : St × Nat :=
  if σ.down then (σ, 4) else if inR σ i ∧ s.length = 256 then
    ((act { σ with wait := σ.wait ++ [(i.toNat, s)] }).1, if (act σ).2 then 4 else 0)
  else (σ, 1)
def setAll (safe : List Dat) (wait : List (Nat × Dat)) : List Dat := wait.foldl (fun l x => l.set x.1 x.2) safe
def sync (σ : St) : St × Nat :=
  if σ.down then (σ, 4) else if (act σ).2 then ((act σ).1, 4)
  else ({ (act σ).1 with safe := setAll σ.safe σ.wait, wait := [] }, 0)
def arm (σ : St) (n : Int) : St := { σ with armed := n.toNat }
def clip (n : Int) : Nat := min n.toNat 256
/-- a pending write at a loss of power -/
def keepOne (keep : List Bool) (torn : Int) (n : Nat) (l : List Dat) (k : Nat) (x : Nat × Dat) : List Dat :=
  if (k : Int) = torn then l.set x.1 (x.2.take n ++ (l.getD x.1 []).drop n)
  else if keep.getD k false then l.set x.1 x.2 else l
def keepGo (keep : List Bool) (torn : Int) (n : Nat) : Nat → List (Nat × Dat) → List Dat → List Dat
  | _, [], l => l
  | k, x :: r, l => keepGo keep torn n (k + 1) r (keepOne keep torn n l k x)
def crash (σ : St) (keep : List Bool) (torn bytes : Int) : St :=
  { σ with safe := keepGo keep torn (clip bytes) 0 σ.wait σ.safe, wait := [], down := false, armed := 0, epochs := σ.epochs + 1 }
/-- what every state keeps -/
structure Ok (σ : St) : Prop where
  blocks : σ.safe.length ≤ 16384
  full : ∀ x ∈ σ.safe, x.length = 256
  inW : ∀ x ∈ σ.wait, x.1 < σ.safe.length ∧ x.2.length = 256
  armed : σ.armed ≤ 9223372036854775807

theorem act_safe (σ : St) : (act σ).1.safe = σ.safe ∧ (act σ).1.wait = σ.wait ∧ (act σ).1.acts = σ.acts + 1 ∧ (act σ).1.epochs = σ.epochs ∧ (act σ).1.armed ≤ σ.armed := by
  unfold act; split
  · exact ⟨rfl, rfl, rfl, rfl, Nat.le_refl _⟩
  · split
    · exact ⟨rfl, rfl, rfl, rfl, Nat.zero_le _⟩
    · exact ⟨rfl, rfl, rfl, rfl, Nat.sub_le _ _⟩
theorem Ok.act {σ : St} (h : Ok σ) : Ok (act σ).1 := by
  obtain ⟨e1, e2, _, _, e5⟩ := act_safe σ
  exact ⟨by rw [e1]; exact h.blocks, by rw [e1]; exact h.full, by rw [e1, e2]; exact h.inW, Nat.le_trans e5 h.armed⟩
theorem new_ok {n : Nat} (h : n ≤ 16384) : Ok (new n) := ⟨by simpa [new] using h, fun x hx => by have := List.eq_of_mem_replicate hx; rw [this]; exact List.length_replicate, fun x hx => by simp [new] at hx, by simp [new]⟩
theorem Ok.write {σ : St} (h : Ok σ) (i : Int) (s : Dat) : Ok (write σ i s).1 := by
  unfold Bl.write
  split
  · exact h
  · split
    · rename_i h2
      obtain ⟨⟨h0, h1⟩, hs⟩ := h2
      refine Ok.act ⟨h.blocks, h.full, fun x hx => ?_, h.armed⟩
      rcases List.mem_append.1 hx with hx | hx
      · exact h.inW x hx
      · simp at hx; subst hx; exact ⟨by simp only; omega, hs⟩
    · exact h
theorem setAll_len (wait : List (Nat × Dat)) : ∀ safe : List Dat, (setAll safe wait).length = safe.length := by
  induction wait with
  | nil => intro safe; rfl
  | cons x r ih => intro safe; show (setAll (safe.set x.1 x.2) r).length = _; rw [ih]; simp
theorem setAll_full (wait : List (Nat × Dat)) : ∀ safe : List Dat, (∀ x ∈ safe, x.length = 256) → (∀ x ∈ wait, x.2.length = 256) → ∀ x ∈ setAll safe wait, x.length = 256 := by
  induction wait with
  | nil => intro safe h _; exact h
  | cons y r ih =>
    intro safe h hw
    refine ih (safe.set y.1 y.2) (fun x hx => ?_) (fun x hx => hw x (List.mem_cons_of_mem _ hx))
    rcases List.mem_or_eq_of_mem_set hx with hx | hx
    · exact h x hx
    · rw [hx]; exact hw y (List.mem_cons_self ..)
theorem Ok.sync {σ : St} (h : Ok σ) : Ok (sync σ).1 := by
  unfold Bl.sync
  split
  · exact h
  · split
    · exact h.act
    · exact ⟨by simp only [setAll_len]; exact h.blocks, setAll_full _ _ h.full (fun x hx => (h.inW x hx).2), fun x hx => by simp at hx, h.act.armed⟩
theorem Ok.arm {σ : St} (h : Ok σ) {n : Int} (hn : n ≤ 9223372036854775807) : Ok (arm σ n) := ⟨h.blocks, h.full, h.inW, by simp only [Bl.arm]; omega⟩
theorem keepOne_len (keep : List Bool) (torn : Int) (n : Nat) (l : List Dat) (k : Nat) (x : Nat × Dat) : (keepOne keep torn n l k x).length = l.length := by
  unfold keepOne; split
  · simp
  · split <;> simp
theorem getD_len {l : List Dat} (h : ∀ x ∈ l, x.length = 256) {i : Nat} (hi : i < l.length) : (l.getD i []).length = 256 := by
  rw [List.getD_eq_getElem?_getD, List.getElem?_eq_getElem hi]; exact h _ (List.getElem_mem hi)
theorem keepOne_full {keep : List Bool} {torn : Int} {n : Nat} {l : List Dat} {k : Nat} {x : Nat × Dat} (h : ∀ x ∈ l, x.length = 256) (hx : x.1 < l.length ∧ x.2.length = 256) (hn : n ≤ 256) : ∀ y ∈ keepOne keep torn n l k x, y.length = 256 := by
  unfold keepOne; split
  · intro y hy
    rcases List.mem_or_eq_of_mem_set hy with hy | hy
    · exact h y hy
    · have := getD_len h hx.1
      rw [hy, List.length_append, List.length_take, List.length_drop]; omega
  · split
    · intro y hy
      rcases List.mem_or_eq_of_mem_set hy with hy | hy
      · exact h y hy
      · rw [hy]; exact hx.2
    · exact h
theorem keepGo_ok {keep : List Bool} {torn : Int} {n : Nat} (hn : n ≤ 256) : ∀ (wait : List (Nat × Dat)) (k : Nat) (l : List Dat), (∀ x ∈ l, x.length = 256) → (∀ x ∈ wait, x.1 < l.length ∧ x.2.length = 256) →
    (keepGo keep torn n k wait l).length = l.length ∧ ∀ x ∈ keepGo keep torn n k wait l, x.length = 256
  | [], _, l, h, _ => ⟨rfl, h⟩
  | x :: r, k, l, h, hw => by
    have hl := keepOne_len keep torn n l k x
    have := keepGo_ok (keep := keep) (torn := torn) hn r (k + 1) (keepOne keep torn n l k x) (keepOne_full h (hw x (List.mem_cons_self ..)) hn) (fun y hy => by rw [hl]; exact hw y (List.mem_cons_of_mem _ hy))
    exact ⟨this.1.trans hl, this.2⟩
theorem clip_le (n : Int) : clip n ≤ 256 := Nat.min_le_right _ _
theorem Ok.crash {σ : St} (h : Ok σ) (keep : List Bool) (torn bytes : Int) : Ok (crash σ keep torn bytes) := by
  have := keepGo_ok (keep := keep) (torn := torn) (clip_le bytes) σ.wait 0 σ.safe h.full h.inW
  exact ⟨by simp only [Bl.crash, this.1]; exact h.blocks, this.2, fun x hx => by simp [Bl.crash] at hx, by simp [Bl.crash]⟩
end Bl
end Go.Proofs.Ytdidcopfkjnkdaa
