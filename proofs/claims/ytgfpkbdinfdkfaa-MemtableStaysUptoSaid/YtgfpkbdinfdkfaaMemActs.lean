/-
  Acts of layer 6 that came in, opened.
-/
import Derived.Test.YtgfpkbdinfdkfaaVers
namespace Go.Proofs.Ytgfpkbdinfdkfaa
open Go.RowKit
set_option linter.unusedVariables false
theorem laidOut : laidOutB Try.prog = true := by kernel_rfl
namespace Ma
open Gn
open Mt (Ver VerIn verV)
structure Act6 where
  kd : Int
  n : Int
  v : Ver
structure Act6.Ok (x : Act6) : Prop where
  kd : -9223372036854775808 ≤ x.kd ∧ x.kd ≤ 9223372036854775807
  n : -9223372036854775808 ≤ x.n ∧ x.n ≤ 9223372036854775807
  v : VerIn x.v
abbrev act6T : Gn.Ty := .struct (.cons (.int .i64) (.cons (.int .i64) (.cons Vs.verT .nil)))
abbrev AD6 : Type := Int × Int × Vs.VD × Unit
/-- acts that came in -/
structure ActsIn6 (W : World) (a : Option Addr) (b off : Nat) (L : List Act6) : Prop where
  at' : 0 < L.length → a = some ⟨b, off, none⟩ ∧ b < W.heap.size
  cells : ∀ j (h : j < L.length), W.cell? ⟨b, off + j * 6, none⟩ = some (.int .i64 L[j].kd) ∧ W.cell? ⟨b, off + j * 6 + 1, none⟩ = some (.int .i64 L[j].n) ∧ W.cell? ⟨b, off + j * 6 + 2, none⟩ = some (.string (Cd.bs L[j].v.key)) ∧
    W.cell? ⟨b, off + j * 6 + 3, none⟩ = some (.int .u64 L[j].v.seq) ∧ W.cell? ⟨b, off + j * 6 + 4, none⟩ = some (.bool L[j].v.del) ∧ W.cell? ⟨b, off + j * 6 + 5, none⟩ = some (.string (Cd.bs L[j].v.val))
  ok : ∀ x ∈ L, x.Ok
  len : L.length ≤ 1048576
theorem rd_act6 {B : Nat} {W : World} {cs : List Value} {x : AD6} (h : RdC B W act6T cs x) :
    cs = [.int .i64 x.1, .int .i64 x.2.1, .string (Cd.bs (Vs.toV x.2.2.1).key), .int .u64 (Vs.toV x.2.2.1).seq, .bool (Vs.toV x.2.2.1).del, .string (Cd.bs (Vs.toV x.2.2.1).val)] ∧ (-9223372036854775808 ≤ x.1 ∧ x.1 ≤ 9223372036854775807) ∧ (-9223372036854775808 ≤ x.2.1 ∧ x.2.1 ≤ 9223372036854775807) ∧ (0 ≤ (Vs.toV x.2.2.1).seq ∧ (Vs.toV x.2.2.1).seq < 18446744073709551616) := by
  obtain ⟨c1, d1, rfl, _, ⟨rfl, w1⟩, c2, d2, rfl, _, ⟨rfl, w2⟩, c3, d3, rfl, _, h3, rfl⟩ := h
  obtain ⟨rfl, hq⟩ := Vs.rd_ver (x := x.2.2.1) h3
  have e1 : (Lit.int .i64 x.1).wf = true := w1
  have e2 : (Lit.int .i64 x.2.1).wf = true := w2
  simp [Lit.wf, IntKind.min, IntKind.max, IntKind.signed, IntKind.bits] at e1 e2
  exact ⟨rfl, e1, e2, hq⟩
theorem mem_sum6 {α : Type} (f : α → Nat) : ∀ (l : List α) (j : Nat) (h : j < l.length), f l[j] ≤ (l.map f).sum
  | x :: r, 0, _ => by rw [List.map_cons, List.sum_cons]; exact Nat.le_add_right _ _
  | x :: r, j + 1, h => by
    have := mem_sum6 f r j (by simpa using h)
    rw [List.map_cons, List.sum_cons, List.getElem_cons_succ]
    omega
theorem len_sum6 {α : Type} (f : α → Nat) (hf : ∀ x, 1 ≤ f x) : ∀ (l : List α), l.length ≤ (l.map f).sum
  | [] => Nat.le_refl _
  | x :: r => by
    have := len_sum6 f hf r
    have := hf x
    rw [List.map_cons, List.sum_cons, List.length_cons]
    omega
variable {H : Type} {enc : TypeId × Value → H} {W : World}
set_option maxRecDepth 100000 in
theorem open_acts6 {B : Nat} {v : Value} {d : DataW H} {p : List MemPlace} {base : Nat} (hv : Value.okWide Try.prog W .any base 22 v)
    (h : DataW.Trod enc Try.prog W 0 (fun _ => true) true 22 v d p) (hlt : ∀ x ∈ p, x.block < W.heap.size) (hB : Rows.uptoBulk d ≤ B) (hB2 : B ≤ 1048576 := by omega) :
    ∃ (a : Option Addr) (cap b off : Nat) (L : List Act6), v = .slice a L.length cap ∧ ActsIn6 W a b off L := by
  obtain ⟨cs, x, rfl, hx, hb⟩ := open_val (.slice act6T) (by kernel_rfl) hv h hB
  revert hx hb
  change List AD6 at x
  intro hx hb
  obtain ⟨a, cap, b, off, rfl, _, _, h2, h3⟩ := (show RdL W.heap.size W 6 (RdC W.heap.size W act6T) cs x from hx)
  have hbs : ((x.map fun d => act6T.bulk d).sum) + 1 ≤ B := hb
  obtain ⟨L, hL, hq⟩ := list_of (len := x.length) (Q := fun j (F : Act6) => F.Ok ∧
      W.cell? ⟨b, off + j * 6, none⟩ = some (.int .i64 F.kd) ∧ W.cell? ⟨b, off + j * 6 + 1, none⟩ = some (.int .i64 F.n) ∧ W.cell? ⟨b, off + j * 6 + 2, none⟩ = some (.string (Cd.bs F.v.key)) ∧
      W.cell? ⟨b, off + j * 6 + 3, none⟩ = some (.int .u64 F.v.seq) ∧ W.cell? ⟨b, off + j * 6 + 4, none⟩ = some (.bool F.v.del) ∧ W.cell? ⟨b, off + j * 6 + 5, none⟩ = some (.string (Cd.bs F.v.val))) (fun j hj => by
    obtain ⟨cs', g1, g2, g3⟩ := h3 j hj
    obtain ⟨rfl, k1, k2, k3⟩ := rd_act6 (x := x[j]) g3
    have hm : act6T.bulk x[j] ≤ (x.map fun d => act6T.bulk d).sum := mem_sum6 (fun d => act6T.bulk d) x j hj
    have e : act6T.bulk x[j] = 1 + (1 + ((x[j].2.2.1.1.length + 1 + (1 + (1 + (x[j].2.2.1.2.2.2.1.length + 1 + 0))) + 1) + 0)) + 1 := rfl
    have e3 : (Vs.toV x[j].2.2.1).key.length = x[j].2.2.1.1.length := rfl
    have e4 : (Vs.toV x[j].2.2.1).val.length = x[j].2.2.1.2.2.2.1.length := rfl
    refine ⟨⟨x[j].1, x[j].2.1, Vs.toV x[j].2.2.1⟩, ⟨k1, k2, ⟨by show (Vs.toV x[j].2.2.1).key.length ≤ _; omega, by show (Vs.toV x[j].2.2.1).val.length ≤ _; omega, k3.1, k3.2⟩⟩, ?_⟩
    exact ⟨g2 0 (by decide), g2 1 (by decide), g2 2 (by decide), g2 3 (by decide), g2 4 (by decide), g2 5 (by decide)⟩)
  have hlen : x.length ≤ (x.map fun d => act6T.bulk d).sum := len_sum6 _ (fun d => Nat.le_add_left _ _) x
  refine ⟨a, cap, b, off, L, by rw [hL]; rfl, ⟨fun h => h2 (Nat.lt_of_lt_of_eq h hL), fun j hj => (hq j hj).2, fun y hy => ?_, by omega⟩⟩
  obtain ⟨j, hj, rfl⟩ := List.getElem_of_mem hy
  exact (hq j hj).1
end Ma
end Go.Proofs.Ytgfpkbdinfdkfaa
