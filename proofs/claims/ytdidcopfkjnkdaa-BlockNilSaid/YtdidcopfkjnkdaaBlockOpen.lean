/-
  Acts that came in, opened: a slice of them, and one by value.
-/
import Derived.Test.YtdidcopfkjnkdaaBlockMixes
import Derived.Test.YtdidcopfkjnkdaaBulk
import Derived.Deep.SlicePairs
import Derived.Deep.Fields
import Derived.Deep.Slices
import Derived.Carry
import Derived.WideShapes
import Derived.RowKit
import Derived.Lib.SmallJoins
import Derived.Laws.Pointers
namespace Go.Proofs.Ytdidcopfkjnkdaa
open Go.RowKit Go.ChangeShapes Go.WideShapes Go.Deep Go.Joins
set_option linter.unusedVariables false

theorem laidOut : laidOutB Try.prog = true := by kernel_rfl

theorem spot_none {W : World} {a : Addr} {v : Value} (h : W.cell? (a.add 0) = some v) : a.spot = none := by
  cases hs : a.spot with
  | none => rfl
  | some sp =>
    have : W.cell? (a.add 0) = none := by
      unfold World.cell?
      have : (a.add 0).spot.isSome = true := by unfold Addr.add; split <;> simp_all
      split <;> simp_all
    rw [this] at h; cases h
theorem add_flat (b off k : Nat) : (⟨b, off, none⟩ : Addr).add k = ⟨b, off + k, none⟩ := by unfold Addr.add; split <;> simp_all

section
variable {H : Type} {enc : TypeId × Value → H} {W : World}

theorem bools_list {n : Nat} {len : Nat} {a : Addr} {D : Nat → DataW H} {Pl : Nat → List MemPlace}
    (hf : ∀ i, i < len → ∃ cs', W.cells? 0 (a.add (i * 1)) 1 = some cs' ∧ DataW.trod enc Try.prog W 0 (fun _ => true) true n 4 cs' = some (D i, Pl i)) :
    ∃ l : List Bool, l.length = len ∧ (∀ i (h : i < l.length), W.cell? (a.add i) = some (.bool l[i])) ∧ l.length ≤ ((List.range len).map fun i => Rows.uptoBulk (D i)).sum := by
  induction len with
  | zero => exact ⟨[], rfl, fun i h => by simp at h, by simp⟩
  | succ len ih =>
    obtain ⟨l, hl, hc, hb⟩ := ih (fun i hi => hf i (by omega))
    obtain ⟨cs', h1, h2⟩ := hf len (by omega)
    obtain ⟨x, rfl, hx⟩ := DataW.trod_bool Try.underlying4 h2
    obtain ⟨_, _, hcell⟩ := World.cells?_some h1
    have c0 := hcell 0 (by omega)
    rw [Go.Deep.add_add] at c0
    refine ⟨l ++ [x], by simp [hl], fun i hi => ?_, ?_⟩
    · by_cases h : i < l.length
      · rw [List.getElem_append_left h]; exact hc i h
      · obtain rfl : i = l.length := by simp at hi; omega
        rw [List.getElem_append_right (Nat.le_refl _)]
        simp only [Nat.sub_self, List.getElem_cons_zero]
        rw [hl]; simpa using c0
    · have hD : D len = .lit (.bool x) := by simpa using congrArg Prod.fst hx
      rw [List.range_succ, List.map_append, List.sum_append]
      simp only [List.map_cons, List.map_nil, List.sum_cons, List.sum_nil, hD, Rows.uptoBulk, List.length_append, List.length_cons, List.length_nil]
      omega

theorem open_bools {n : Nat} {v : Value} {x : DataW H × List MemPlace} (h : DataW.trod enc Try.prog W 0 (fun _ => true) true n 31 [v] = some x) :
    ∃ l : List Bool, BoolRow (fun k => W.heap.size ≤ k) W v l ∧ l.length ≤ Rows.uptoBulk x.1 := by
  rcases open_slice Try.underlying31 h with ⟨hcs, hx⟩ | ⟨a, len, cap, m, n', D, Pl, hcs, _, hl, hm, hmm, hx, hi⟩
  · simp only [List.cons.injEq, and_true] at hcs
    subst hcs
    exact ⟨[], BoolRow.nil _ _, by simp⟩
  · simp only [List.cons.injEq, and_true] at hcs
    subst hcs
    have hlm : len ≤ m := by rw [hmm]; split <;> omega
    rw [show Try.prog.cellsOf 4 = 1 by kernel_rfl] at hi
    obtain ⟨l, hll, hc, hb⟩ := bools_list (a := a) (len := len) (fun i hi' => hi i (by omega))
    refine ⟨l, ?_, ?_⟩
    · subst hll
      by_cases h0 : 0 < l.length
      · have hsp := spot_none (hc 0 h0)
        obtain ⟨b, off, sp⟩ := a
        simp only at hsp
        subst hsp
        refine ⟨_, cap, b, off, rfl, fun _ => ⟨rfl, ?_⟩, fun j hj => ?_⟩
        · have := World.block_lt_of_cell? W _ (hc 0 h0)
          rw [add_flat] at this
          simp only at this
          omega
        · have := hc j hj
          rw [add_flat] at this
          exact this
      · exact ⟨_, cap, 0, 0, rfl, fun h => absurd h h0, fun j hj => by omega⟩
    · rw [hx]
      simp only [Rows.uptoBulk, Bk.all_range]
      omega

/-- an act, but for its bound -/
structure RawAct (W : World) (x : AAct) : Prop where
  k1 : -9223372036854775808 ≤ x.kind ∧ x.kind ≤ 9223372036854775807
  i1 : -9223372036854775808 ≤ x.i ∧ x.i ≤ 9223372036854775807
  n1 : -9223372036854775808 ≤ x.n ∧ x.n ≤ 9223372036854775807
  row : BoolRow (fun k => W.heap.size ≤ k) W x.kv x.keep
theorem RawAct.ok {x : AAct} (h : RawAct W x) (hl : x.keep.length ≤ 1048576) : x.Ok W := ⟨h.k1, h.i1, h.n1, h.row, hl⟩

theorem act_of {n0 n1 n2 n3 : Nat} {v0 v1 v2 v3 : Value} {y0 y1 y2 y3 : DataW H × List MemPlace} (h0 : DataW.trod enc Try.prog W 0 (fun _ => true) true n0 3 [v0] = some y0) (h1 : DataW.trod enc Try.prog W 0 (fun _ => true) true n1 3 [v1] = some y1)
    (h2 : DataW.trod enc Try.prog W 0 (fun _ => true) true n2 3 [v2] = some y2) (h3 : DataW.trod enc Try.prog W 0 (fun _ => true) true n3 31 [v3] = some y3) :
    ∃ x : AAct, v0 = .int .i64 x.kind ∧ v1 = .int .i64 x.i ∧ v2 = .int .i64 x.n ∧ v3 = x.kv ∧ RawAct W x ∧ x.keep.length + 1 ≤ Rows.uptoBulk (DataW.agg [y0.1, y1.1, y2.1, y3.1]) := by
  obtain ⟨a0, e0, _, w0⟩ := DataW.trod_int Try.underlying3 h0
  obtain ⟨a1, e1, _, w1⟩ := DataW.trod_int Try.underlying3 h1
  obtain ⟨a2, e2, _, w2⟩ := DataW.trod_int Try.underlying3 h2
  obtain ⟨l, hrow, hb⟩ := open_bools h3
  simp only [List.cons.injEq, and_true] at e0 e1 e2
  refine ⟨⟨a0, a1, a2, v3, l⟩, e0, e1, e2, rfl, ⟨?_, ?_, ?_, hrow⟩, ?_⟩
  · simpa [Lit.wf, IntKind.min, IntKind.max, IntKind.signed, IntKind.bits] using w0
  · simpa [Lit.wf, IntKind.min, IntKind.max, IntKind.signed, IntKind.bits] using w1
  · simpa [Lit.wf, IntKind.min, IntKind.max, IntKind.signed, IntKind.bits] using w2
  · simp only [Rows.uptoBulk, Rows.uptoBulkAll]; omega

theorem acts_list {n : Nat} {len : Nat} {a : Addr} {D : Nat → DataW H} {Pl : Nat → List MemPlace}
    (hf : ∀ i, i < len → ∃ cs', W.cells? 0 (a.add (i * 4)) 4 = some cs' ∧ DataW.trod enc Try.prog W 0 (fun _ => true) true n 33 cs' = some (D i, Pl i)) :
    ∃ L : List AAct, L.length = len ∧ (∀ k (h : k < L.length), W.cell? (a.add (k * 4)) = some (.int .i64 L[k].kind) ∧ W.cell? (a.add (k * 4 + 1)) = some (.int .i64 L[k].i) ∧ W.cell? (a.add (k * 4 + 2)) = some (.int .i64 L[k].n) ∧ W.cell? (a.add (k * 4 + 3)) = some L[k].kv) ∧
      (∀ x ∈ L, RawAct W x ∧ x.keep.length ≤ ((List.range len).map fun i => Rows.uptoBulk (D i)).sum) ∧ L.length ≤ ((List.range len).map fun i => Rows.uptoBulk (D i)).sum := by
  induction len with
  | zero => exact ⟨[], rfl, fun i h => by simp at h, fun x hx => by simp at hx, by simp⟩
  | succ len ih =>
    obtain ⟨L, hl, hc, hx, hb⟩ := ih (fun i hi => hf i (by omega))
    obtain ⟨cs', h1, h2⟩ := hf len (by omega)
    obtain ⟨_, hlen, hcell⟩ := World.cells?_some h1
    obtain ⟨xs, k, hk, hxy, _, hxl, hg⟩ := DataW.trod_struct Try.underlying33 h2
    match xs, hxl, cs', hlen with
    | [y0, y1, y2, y3], _, [v0, v1, v2, v3], _ =>
      have g0 := hg 0 _ rfl
      have g1 := hg 1 _ rfl
      have g2 := hg 2 _ rfl
      have g3 := hg 3 _ rfl
      simp [show Try.prog.cellsOf 3 = 1 by kernel_rfl, show Try.prog.cellsOf 31 = 1 by kernel_rfl] at g0 g1 g2 g3
      obtain ⟨x, e0, e1, e2, e3, hraw, hbk⟩ := act_of g0 g1 g2 g3
      have c0 := hcell 0 (by omega)
      have c1 := hcell 1 (by omega)
      have c2 := hcell 2 (by omega)
      have c3 := hcell 3 (by omega)
      rw [Go.Deep.add_add] at c0 c1 c2 c3
      simp at c0 c1 c2 c3
      have hD : D len = .agg [y0.1, y1.1, y2.1, y3.1] := by simpa using congrArg Prod.fst hxy
      have hsum : ((List.range (len + 1)).map fun i => Rows.uptoBulk (D i)).sum = ((List.range len).map fun i => Rows.uptoBulk (D i)).sum + Rows.uptoBulk (D len) := by
        rw [List.range_succ, List.map_append, List.sum_append]; simp
      rw [hsum, hD]
      refine ⟨L ++ [x], by simp [hl], fun i hi => ?_, fun z hz => ?_, by simp; omega⟩
      · by_cases h : i < L.length
        · rw [List.getElem_append_left h]; exact hc i h
        · obtain rfl : i = L.length := by simp at hi; omega
          rw [List.getElem_append_right (Nat.le_refl _)]
          simp only [Nat.sub_self, List.getElem_cons_zero]
          rw [hl, ← e0, ← e1, ← e2, ← e3]
          exact ⟨c0, c1, c2, c3⟩
      · rcases List.mem_append.1 hz with hz | hz
        · exact ⟨(hx z hz).1, by have := (hx z hz).2; omega⟩
        · simp at hz; subst hz; exact ⟨hraw, by omega⟩

theorem open_acts {B : Nat} {v : Value} {d : DataW H} {p : List MemPlace} {base : Nat} (hv : Value.okWide Try.prog W .any base 22 v)
    (h : DataW.Trod enc Try.prog W 0 (fun _ => true) true 22 v d p) (hlt : ∀ x ∈ p, x.block < W.heap.size) (hB : Rows.uptoBulk d ≤ B) (hB2 : B ≤ 1048576 := by omega) :
    ∃ (a : Option Addr) (cap b off : Nat) (L : List AAct), v = .slice a L.length cap ∧ Acts W a b off L := by
  obtain ⟨a, len, cap, rfl⟩ := okWide_slice Try.underlying22 hv
  obtain ⟨fuel, hf⟩ := h
  rcases open_slice Try.underlying22 hf with ⟨hcs, hx⟩ | ⟨a', len', cap', m, n, D, Pl, hcs, _, hl, hm, hmm, hx, hi⟩
  · simp [Value.cells] at hcs
    obtain ⟨rfl, rfl, rfl⟩ := hcs
    exact ⟨none, 0, 0, 0, [], rfl, fun h => by simp at h, fun i h => by simp at h, fun x hx => by simp at hx, by simp⟩
  · simp [Value.cells] at hcs
    obtain ⟨rfl, rfl, rfl⟩ := hcs
    have hlm : len ≤ m := by rw [hmm]; split <;> omega
    rw [show Try.prog.cellsOf 33 = 4 by kernel_rfl] at hi
    obtain ⟨L, hL, hc, hxs, hb⟩ := acts_list (a := a') (len := len) (fun i hi' => hi i (by omega))
    simp only [Prod.mk.injEq] at hx
    have hsum : ((List.range len).map fun i => Rows.uptoBulk (D i)).sum ≤ B := by
      refine Nat.le_trans ?_ hB
      rw [hx.1]
      simp only [Rows.uptoBulk, Bk.all_range]
      omega
    subst hL
    have hok : ∀ x ∈ L, x.Ok W := fun x hx => (hxs x hx).1.ok (by have := (hxs x hx).2; omega)
    by_cases h0 : 0 < L.length
    · have hsp := spot_none (by have := (hc 0 h0).1; simpa using this)
      obtain ⟨b, off, sp⟩ := a'
      simp only at hsp
      subst hsp
      refine ⟨some ⟨b, off, none⟩, cap, b, off, L, rfl, fun _ => ⟨rfl, ?_⟩, fun i hi' => ?_, hok, by omega⟩
      · have := World.block_lt_of_cell? W _ (hc 0 h0).1
        rw [add_flat] at this
        exact this
      · have := hc i hi'
        rw [add_flat, add_flat, add_flat, add_flat] at this
        simpa [Nat.add_assoc] using this
    · exact ⟨some a', cap, 0, 0, L, rfl, fun h => absurd h h0, fun i hi' => by omega, hok, by omega⟩

theorem open_act {B : Nat} {v : Value} {d : DataW H} {p : List MemPlace} {base : Nat} (hv : Value.okWide Try.prog W .any base 33 v)
    (h : DataW.Trod enc Try.prog W 0 (fun _ => true) true 33 v d p) (hlt : ∀ x ∈ p, x.block < W.heap.size) (hB : Rows.uptoBulk d ≤ B) (hB2 : B ≤ 1048576 := by omega) :
    ∃ x : AAct, v = .agg #[.int .i64 x.kind, .int .i64 x.i, .int .i64 x.n, x.kv] ∧ x.Ok W := by
  obtain ⟨c0, c1, c2, c3, y0, y1, y2, y3, m, rfl, rfl, rfl, h0, h1, h2, h3⟩ := open_agg4 Try.underlying33 (by kernel_rfl) (by kernel_rfl) hv h
  obtain ⟨x, rfl, rfl, rfl, rfl, hraw, hb⟩ := act_of h0 h1 h2 h3
  exact ⟨x, rfl, hraw.ok (by omega)⟩
end
end Go.Proofs.Ytdidcopfkjnkdaa
