/-
  Plain mathematics of chapter 4 (files): roots, which may be, and as bytes.
-/
import Derived.Test.YtenjjfiojackaaaFramePlain
import Derived.Test.YtenjjfiojackaaaCodecOrder
import Derived.Test.YtenjjfiojackaaaGen
namespace Go.Proofs.Ytenjjfiojackaaa
namespace Fi
open Go.RowKit
open Op (bytesLess)

abbrev Dat := List UInt8
structure File where
  name : Dat
  size : Int
  blocks : List Int
structure Root where
  gen : Nat
  files : List File

/-- P4.1's Words: a file's name -/
def nameB (s : Dat) : Bool := decide (1 ≤ s.length) && decide (s.length ≤ 32)
def takes (n : Int) : Int := n / 256 + if 0 < n % 256 then 1 else 0
/-- a name behind another one -/
def prevB : Option Dat → Dat → Bool
  | some p, n => bytesLess p n
  | none, _ => true
/-- a file's head, behind one of that name -/
def headB (prev : Option Dat) (f : File) : Bool :=
  nameB f.name && prevB prev f.name && decide (0 ≤ f.size) && decide ((f.blocks.length : Int) = takes f.size)
/-- the blocks of a list are new ones, of so many; what is taken behind them -/
def blocksGo (n : Int) : List Int → List Int → Option (List Int)
  | [], t => some t
  | b :: l, t => if 32 ≤ b ∧ b < n ∧ b ∉ t then blocksGo n l (b :: t) else none
def mayGo (n : Int) : List File → Option Dat → List Int → Bool
  | [], _, _ => true
  | f :: r, prev, t => headB prev f && (match blocksGo n f.blocks t with | some t' => mayGo n r (some f.name) t' | none => false)
/-- P4.1's Words: may a root be, on so many blocks? -/
def may (r : Root) (n : Int) : Bool := decide (1 ≤ r.gen) && decide (r.gen ≤ 4611686018427387904) && decide (r.files.length ≤ 64) && mayGo n r.files none []

/-- how many follow one another by 1 -/
def runLen (x : Int) : List Int → Nat
  | [] => 0
  | y :: r => if y = x + 1 then runLen y r + 1 else 0
theorem runLen_le (l : List Int) : ∀ x, runLen x l ≤ l.length := by
  induction l with
  | nil => intro x; exact Nat.le_refl _
  | cons y r ih => intro x; unfold runLen; split; exact Nat.succ_le_succ (ih y); exact Nat.zero_le _
def runs : List Int → List (Int × Nat)
  | [] => []
  | x :: r => (x, runLen x r + 1) :: runs (r.drop (runLen x r))
termination_by l => l.length
decreasing_by simp; omega
def runB (p : Int × Nat) : Dat := Cd.putU p.1.toNat ++ Cd.putU p.2
def runBytes (l : List Int) : Dat := Cd.putU (runs l).length ++ (runs l).flatMap runB
def fileBytes (f : File) : Dat := Cd.putT f.name ++ Cd.putU f.size.toNat ++ runBytes f.blocks
def rootLoad (r : Root) : Dat := Cd.putU r.gen ++ Cd.putU r.files.length ++ r.files.flatMap fileBytes
/-- P4.1: EncodeRoot -/
def encode (r : Root) (n : Int) : Dat × Nat :=
  if may r (min n 16384) then (if (Fr.put 1 (rootLoad r)).2 = 0 ∧ (Fr.put 1 (rootLoad r)).1.length ≤ 3840 then ((Fr.put 1 (rootLoad r)).1, 0) else ([], 5)) else ([], 1)

theorem runs_cons (x : Int) (r : List Int) : runs (x :: r) = (x, runLen x r + 1) :: runs (r.drop (runLen x r)) := by rw [runs]
theorem runs_len (l : List Int) : (runs l).length ≤ l.length := by
  induction h : l.length using Nat.strongRecOn generalizing l with
  | _ n ih =>
    match l, h with
    | [], h => rw [runs]; exact Nat.zero_le _
    | x :: r, h =>
      rw [runs_cons, List.length_cons]
      have := ih (r.drop (runLen x r)).length (by simp at h ⊢; omega) _ rfl
      simp at h this ⊢; omega
end Fi
end Go.Proofs.Ytenjjfiojackaaa
