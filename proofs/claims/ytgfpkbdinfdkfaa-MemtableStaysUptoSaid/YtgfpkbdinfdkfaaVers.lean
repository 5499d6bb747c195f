/-
  Rows of versions (four cells each): where they lie, what keeps them, a part of them; lists of versions that came in, opened.
-/
import Derived.Test.YtgfpkbdinfdkfaaMemOrder
import Derived.Test.YtgfpkbdinfdkfaaGen
namespace Go.Proofs.Ytgfpkbdinfdkfaa
open Go.RowKit
set_option linter.unusedVariables false
namespace Vs
open Gn
open Mt (Ver VerIn verV)
abbrev verT : Gn.Ty := .struct (.cons .str (.cons (.int .u64) (.cons .bool (.cons .str .nil))))
abbrev VD : Type := List UInt8 × Int × Bool × List UInt8 × Unit
def toV (x : VD) : Ver := ⟨x.1, x.2.1, x.2.2.1, x.2.2.2.1⟩
/-- the four cells of a version -/
def At (W : World) (b o : Nat) (x : Ver) : Prop :=
  W.cell? ⟨b, o, none⟩ = some (.string (Cd.bs x.key)) ∧ W.cell? ⟨b, o + 1, none⟩ = some (.int .u64 x.seq) ∧ W.cell? ⟨b, o + 2, none⟩ = some (.bool x.del) ∧ W.cell? ⟨b, o + 3, none⟩ = some (.string (Cd.bs x.val))
theorem At.below {B : Nat} {W W' : World} {b o : Nat} {x : Ver} (h : At W b o x) (hb : Below B W W') (hl : b < B) : At W' b o x := by
  obtain ⟨h1, h2, h3, h4⟩ := h
  exact ⟨(hb.cell (p := ⟨b, o, none⟩) hl).trans h1, (hb.cell (p := ⟨b, o + 1, none⟩) hl).trans h2, (hb.cell (p := ⟨b, o + 2, none⟩) hl).trans h3, (hb.cell (p := ⟨b, o + 3, none⟩) hl).trans h4⟩
/-- versions in a row, in blocks below B -/
def Vers (B : Nat) (W : World) (v : Value) (L : List Ver) : Prop :=
  ∃ (a : Option Addr) (cap b off : Nat), v = .slice a L.length cap ∧ (0 < L.length → a = some ⟨b, off, none⟩ ∧ b < B) ∧ ∀ j (h : j < L.length), At W b (off + j * 4) L[j]
theorem Vers.below {B : Nat} {W W' : World} {v : Value} {L : List Ver} (h : Vers B W v L) (hb : Below B W W') : Vers B W' v L := by
  obtain ⟨a, cap, b, off, h1, h2, h3⟩ := h
  exact ⟨a, cap, b, off, h1, h2, fun j hj => (h3 j hj).below hb (h2 (by omega)).2⟩
theorem Vers.grow {B B' : Nat} {W W' : World} {v : Value} {L : List Ver} (h : Vers B W v L) (hb : Below B W W') (hB : B ≤ B') : Vers B' W' v L := by
  obtain ⟨a, cap, b, off, h1, h2, h3⟩ := h.below hb
  exact ⟨a, cap, b, off, h1, fun h => ⟨(h2 h).1, Nat.lt_of_lt_of_le (h2 h).2 hB⟩, h3⟩
theorem rd_ver {B : Nat} {W : World} {cs : List Value} {x : VD} (h : RdC B W verT cs x) : cs = [.string (Cd.bs (toV x).key), .int .u64 (toV x).seq, .bool (toV x).del, .string (Cd.bs (toV x).val)] ∧ (0 ≤ (toV x).seq ∧ (toV x).seq < 18446744073709551616) := by
  obtain ⟨c1, d1, rfl, _, ⟨rfl, w1⟩, c2, d2, rfl, _, ⟨rfl, w2⟩, c3, d3, rfl, _, rfl, c4, d4, rfl, _, ⟨rfl, w4⟩, rfl⟩ := h
  refine ⟨rfl, ?_⟩
  have w2' : (Lit.int .u64 x.2.1).wf = true := w2
  simp [Lit.wf, IntKind.min, IntKind.max, IntKind.signed, IntKind.bits] at w2'
  exact ⟨w2'.1, by show x.2.1 < _; omega⟩
def vbulk (x : VD) : Nat := x.1.length + 1 + (1 + (1 + (x.2.2.2.1.length + 1 + 0))) + 1
/-- how much a version is -/
def nv (x : Ver) : Nat := x.key.length + x.val.length + 1
/-- versions that came in -/
structure VersIn (W : World) (v : Value) (L : List Ver) : Prop where
  vers : Vers W.heap.size W v L
  each : ∀ x ∈ L, VerIn x
  many : L.length ≤ 1048576
  sum : (L.map nv).sum ≤ 1048576
theorem vers_of_rd {B : Nat} {W : World} {cs : List Value} {X : List VD} (h : RdC B W (.slice verT) cs X) : ∃ v, cs = [v] ∧ Vers B W v (X.map toV) ∧ ∀ x ∈ X, 0 ≤ (toV x).seq ∧ (toV x).seq < 18446744073709551616 := by
  obtain ⟨a, cap, b, off, h1, _, _, h2, h3⟩ := h
  refine ⟨_, h1, ⟨a, cap, b, off, by rw [List.length_map]; rfl, fun h => h2 (by rwa [List.length_map] at h), fun j hj => ?_⟩, fun x hx => ?_⟩
  · rw [List.length_map] at hj
    obtain ⟨cs', g1, g2, g3⟩ := h3 j hj
    obtain ⟨rfl, _⟩ := rd_ver g3
    rw [List.getElem_map]
    exact ⟨g2 0 (by decide), g2 1 (by decide), g2 2 (by decide), g2 3 (by decide)⟩
  · obtain ⟨j, hj, rfl⟩ := List.getElem_of_mem hx
    obtain ⟨cs', g1, g2, g3⟩ := h3 j hj
    exact (rd_ver g3).2
theorem vers_in {X : List VD} {b : Nat} (h : (X.map vbulk).sum + 1 ≤ b) (hb : b ≤ 1048576) (hs : ∀ x ∈ X, 0 ≤ (toV x).seq ∧ (toV x).seq < 18446744073709551616) :
    (∀ x ∈ X.map toV, VerIn x) ∧ (X.map toV).length ≤ 1048576 ∧ ((X.map toV).map nv).sum ≤ 1048576 := by
  have key : ∀ (X : List VD), (∀ x ∈ X, x.1.length + x.2.2.2.1.length + 1 ≤ (X.map vbulk).sum) ∧ ((X.map toV).map nv).sum ≤ (X.map vbulk).sum ∧ X.length ≤ (X.map vbulk).sum := by
    intro X
    induction X with
    | nil => exact ⟨fun p hp => (by cases hp), by simp, by simp⟩
    | cons x r ih =>
      have hx : vbulk x = x.1.length + 1 + (1 + (1 + (x.2.2.2.1.length + 1 + 0))) + 1 := rfl
      have hn : nv (toV x) = x.1.length + x.2.2.2.1.length + 1 := rfl
      simp only [List.map_cons, List.sum_cons, List.length_cons, List.mem_cons]
      refine ⟨fun p hp => ?_, by have := ih.2.1; omega, by have := ih.2.2; omega⟩
      rcases hp with rfl | hp
      · omega
      · have := ih.1 p hp; omega
  obtain ⟨k1, k2, k3⟩ := key X
  refine ⟨fun x hx => ?_, by rw [List.length_map]; omega, by omega⟩
  obtain ⟨y, hy, rfl⟩ := List.mem_map.1 hx
  have := k1 y hy
  obtain ⟨q1, q2⟩ := hs y hy
  exact ⟨by show y.1.length ≤ _; omega, by show y.2.2.2.1.length ≤ _; omega, q1, q2⟩
variable {H : Type} {enc : TypeId × Value → H} {W : World}

set_option maxRecDepth 100000 in
theorem open_vers {B : Nat} {v : Value} {d : DataW H} {p : List MemPlace} {base : Nat} (hv : Value.okWide Try.prog W .any base 26 v)
    (h : DataW.Trod enc Try.prog W 0 (fun _ => true) true 26 v d p) (hlt : ∀ x ∈ p, x.block < W.heap.size) (hB : Rows.uptoBulk d ≤ B) (hB2 : B ≤ 1048576 := by omega) :
    ∃ (u : Value) (L : List Ver), v = u ∧ VersIn W u L := by
  obtain ⟨cs, l, rfl, hx, hb⟩ := open_val (.slice verT) (by kernel_rfl) hv h hB
  replace hb : ((show List VD from l).map vbulk).sum + 1 ≤ B := hb
  obtain ⟨u, hu, hV, hs⟩ := vers_of_rd (X := l) hx
  obtain ⟨k1, k2, k3⟩ := vers_in hb hB2 hs
  cases hu
  exact ⟨u, _, rfl, ⟨hV, k1, k2, k3⟩⟩

theorem open_ver {B : Nat} {v : Value} {d : DataW H} {p : List MemPlace} {base : Nat} (hv : Value.okWide Try.prog W .any base 33 v)
    (h : DataW.Trod enc Try.prog W 0 (fun _ => true) true 33 v d p) (hlt : ∀ x ∈ p, x.block < W.heap.size) (hB : Rows.uptoBulk d ≤ B) (hB2 : B ≤ 1048576 := by omega) :
    ∃ (x : Ver), v = verV x ∧ VerIn x := by
  obtain ⟨cs, l, rfl, hx, hb⟩ := open_val verT (by kernel_rfl) hv h hB
  obtain ⟨rfl, q⟩ := rd_ver (x := l) hx
  replace hb : vbulk l ≤ B := hb
  have hn : vbulk l = l.1.length + 1 + (1 + (1 + (l.2.2.2.1.length + 1 + 0))) + 1 := rfl
  exact ⟨toV l, rfl, ⟨by show l.1.length ≤ _; omega, by show l.2.2.2.1.length ≤ _; omega, q.1, q.2⟩⟩
/-- a part of a row -/
theorem Vers.at_ {B : Nat} {W : World} {v : Value} {L : List Ver} (h : Vers B W v L) : ∃ (a : Option Addr) (cap b off : Nat), v = .slice a L.length cap ∧ (0 < L.length → a = some ⟨b, off, none⟩ ∧ b < B) ∧ ∀ j (h : j < L.length), At W b (off + j * 4) L[j] := h
end Vs
end Go.Proofs.Ytgfpkbdinfdkfaa
