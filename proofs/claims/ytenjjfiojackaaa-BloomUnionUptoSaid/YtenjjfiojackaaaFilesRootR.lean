/-
  The document's answers on roots (tapestryref04): Name, Takes, May.
-/
import Derived.Test.YtenjjfiojackaaaFilesPlain
import Derived.Test.YtenjjfiojackaaaObj
import Derived.Test.YtenjjfiojackaaaCodecText
import Derived.Test.YtenjjfiojackaaaCodecPutB
import Derived.WalkKit
import Derived.WalkLawsBesides
import Derived.Below
import Derived.BigQuiet
import Derived.Deep.QuietTactic
import Derived.Deep.LoopGhost
namespace Go.Proofs.Ytenjjfiojackaaa
open Go.RowKit
set_option linter.unusedSimpArgs false
set_option linter.unusedVariables false

namespace Fi
open Op (bytesLess)
def inI64 (n : Int) : Prop := -9223372036854775808 ≤ n ∧ n ≤ 9223372036854775807
/-- a slice of numbers, in blocks below B -/
def Ints (B : Nat) (W : World) (v : Value) (l : List Int) : Prop :=
  ∃ (a : Option Addr) (cap b off : Nat), v = .slice a l.length cap ∧ (0 < l.length → a = some ⟨b, off, none⟩ ∧ b < B) ∧ ∀ j (h : j < l.length), W.cell? ⟨b, off + j, none⟩ = some (.int .i64 l[j])
theorem Ints.below {B : Nat} {W W' : World} {v : Value} {l : List Int} (h : Ints B W v l) (hb : Below B W W') : Ints B W' v l := by
  obtain ⟨a, cap, b, off, h1, h2, h3⟩ := h
  exact ⟨a, cap, b, off, h1, h2, fun j hj => (hb.cell (p := ⟨b, off + j, none⟩) (h2 (by omega)).2).trans (h3 j hj)⟩
/-- a slice of files, with the values of their lists of blocks -/
def Files (B : Nat) (W : World) (v : Value) (L : List (File × Value)) : Prop :=
  ∃ (a : Option Addr) (cap b off : Nat), v = .slice a L.length cap ∧ (0 < L.length → a = some ⟨b, off, none⟩ ∧ b < B) ∧ ∀ j (h : j < L.length),
    W.cell? ⟨b, off + j * 3, none⟩ = some (.string (Cd.bs L[j].1.name)) ∧ W.cell? ⟨b, off + j * 3 + 1, none⟩ = some (.int .i64 L[j].1.size) ∧ W.cell? ⟨b, off + j * 3 + 2, none⟩ = some L[j].2 ∧ Ints B W L[j].2 L[j].1.blocks
theorem Files.below {B : Nat} {W W' : World} {v : Value} {L : List (File × Value)} (h : Files B W v L) (hb : Below B W W') : Files B W' v L := by
  obtain ⟨a, cap, b, off, h1, h2, h3⟩ := h
  refine ⟨a, cap, b, off, h1, h2, fun j hj => ?_⟩
  have hl := (h2 (by omega)).2
  obtain ⟨g1, g2, g3, g4⟩ := h3 j hj
  exact ⟨(hb.cell (p := ⟨b, off + j * 3, none⟩) hl).trans g1, (hb.cell (p := ⟨b, off + j * 3 + 1, none⟩) hl).trans g2, (hb.cell (p := ⟨b, off + j * 3 + 2, none⟩) hl).trans g3, g4.below hb⟩
/-- bounds of what came in -/
structure FileIn (f : File) : Prop where
  name : f.name.length ≤ 1048576
  size : inI64 f.size
  many : f.blocks.length ≤ 1048576
  blocks : ∀ b ∈ f.blocks, inI64 b

theorem bl_total : ∀ p n : Dat, bytesLess p n = !(bytesLess n p || n == p)
  | [], [] => by simp [bytesLess]
  | [], b :: y => by simp [bytesLess]
  | a :: x, [] => by simp [bytesLess]
  | a :: x, b :: y => by
    have ih := bl_total x y
    have e1 : (a < b) ↔ a.toNat < b.toNat := UInt8.lt_iff_toNat_lt
    have e2 : (b < a) ↔ b.toNat < a.toNat := UInt8.lt_iff_toNat_lt
    have e3 : (a = b) ↔ a.toNat = b.toNat := UInt8.toNat_inj.symm
    have e4 : (b = a) ↔ b.toNat = a.toNat := UInt8.toNat_inj.symm
    rw [Cd.bl_cons, Cd.bl_cons, ih]
    have e5 : ((b :: y : Dat) == a :: x) = (decide (a.toNat = b.toNat) && (y == x)) := by
      rw [Bool.eq_iff_iff]; simp [e4]; intro _; omega
    rw [e5]
    by_cases h1 : a.toNat < b.toNat
    · have h2 : ¬ b.toNat < a.toNat := by omega
      have h3 : ¬ a.toNat = b.toNat := by omega
      have h4 : ¬ b.toNat = a.toNat := by omega
      simp [h1, h2, h3, h4]
    · by_cases h3 : a.toNat = b.toNat
      · simp [h3]
      · have h2 : b.toNat < a.toNat := by omega
        simp [h1, h2, h3]

/-- which blocks are taken, as a row -/
def marks (N : Nat) (t : List Int) : List Value := (List.range N).map fun (i : Nat) => Value.bool (decide ((i : Int) ∈ t))
theorem marks_none (N : Nat) : marks N [] = List.replicate N (.bool false) := by
  unfold marks; apply List.ext_getElem <;> simp
theorem marks_get (N : Nat) (t : List Int) (i : Nat) (h : i < N) : (marks N t)[i]? = some (.bool (decide ((i : Int) ∈ t))) := by simp [marks, h]
theorem marks_set (N : Nat) (t : List Int) (i : Nat) : (marks N t).set i (.bool true) = marks N ((i : Int) :: t) := by
  apply List.ext_getElem?
  intro j
  by_cases hj : j < N
  · rw [List.getElem?_set, marks_get N t j hj, marks_get N _ j hj]
    by_cases hij : i = j
    · subst hij; simp [marks, hj]
    · rw [if_neg hij]
      have : ¬ (j : Int) = (i : Int) := by omega
      simp [this]
  · rw [List.getElem?_eq_none (by simp [marks]; omega), List.getElem?_eq_none (by simp [marks]; omega)]
def prevOf (L : List File) : Nat → Option Dat
  | 0 => none
  | k + 1 => (L[k]?).map (·.name)
theorem takes_in {n : Int} (h0 : 0 ≤ n) : takes n = n / 256 + if 0 < n % 256 then 1 else 0 := rfl
end Fi

theorem belowN {B : Nat} {a w : World} (h : Below B a w) (n : Nat) : Below B a (w.drewN n) := ⟨h.os, h.tape, h.output, h.size, h.block⟩

end Go.Proofs.Ytenjjfiojackaaa
