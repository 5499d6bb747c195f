import Derived.Deep.RegionWith
import Derived.Deep.RegionHeld3
import Derived.RangeFuncBox
import Derived.RangeFuncLeaves
import Derived.RangeFuncNested
import Derived.Shelf.Abstract
import Derived.WalkKit
import Derived.OwnWalkIn
import Derived.TacticsInMore
import Derived.LoopNIn
import Derived.LoopIn
import Derived.Lib.AppendStr
import Derived.Lib.BufStepsIn
import Derived.Deep.DeepCutAuto
import Derived.Deep.Cut
import Derived.Deep.CutRange
import Derived.Test.YtfkfckohajpcfaaPart2
/-
  Plain data that a call has made itself, in rows of its own at B or above: kept, read, and put together by append. (What came in: XGen.)
-/
namespace Go.Proofs.Ytfkfckohajpcfaa
open Go.RowKit
set_option linter.unusedVariables false
namespace Gn

/-- a row of elements, each of so many cells -/
def OwL (W : World) (B : Nat) (te : TypeId) (sz : Nat) {α : Type} (ow : List Value → α → Prop) (v : Value) (l : List α) : Prop :=
  ∃ rows : List (List Value), rows.length = l.length ∧ W.ownsRow B te sz v l.length rows.flatten ∧ ∀ j (h : j < l.length) (h' : j < rows.length), rows[j].length = sz ∧ ow rows[j] l[j]
mutual
def OwC (P : Program) (B : Nat) (W : World) : (t : Ty) → TypeId → List Value → t.Den → Prop
  | .int k, _, cs, (a : Int) => cs = [.int k a] ∧ (Lit.int k a).wf = true
  | .bool, _, cs, (x : Bool) => cs = [.bool x]
  | .str, _, cs, (l : List UInt8) => cs = [.string ⟨l.toArray⟩] ∧ l.length ≤ maxLen
  | .slice e, ti, cs, (l : List e.Den) => ∃ te v, P.underlying ti = some (.slice te) ∧ cs = [v] ∧ OwL W B te e.size (OwC P B W e te) v l
  | .struct fs, ti, cs, d => ∃ Fs, P.underlying ti = some (.struct Fs) ∧ OwCs P B W fs Fs.toList cs d
def OwCs (P : Program) (B : Nat) (W : World) : (fs : Tys) → List Field → List Value → fs.Den → Prop
  | .nil, _, cs, _ => cs = []
  | .cons t r, l, cs, d => ∃ f l' c1 c2, l = f :: l' ∧ cs = c1 ++ c2 ∧ c1.length = t.size ∧ OwC P B W t f.type c1 d.1 ∧ OwCs P B W r l' c2 d.2
end
mutual
/-- the element types of the rows within -/
def Ty.rowsOf (P : Program) : Ty → TypeId → List TypeId
  | .slice e, ti => (match P.underlying ti with | some (.slice te) => te :: e.rowsOf P te | _ => [])
  | .struct fs, ti => (match P.underlying ti with | some (.struct Fs) => fs.rowsOf P Fs.toList | _ => [])
  | .int _, _ => []
  | .bool, _ => []
  | .str, _ => []
def Tys.rowsOf (P : Program) : Tys → List Field → List TypeId
  | .nil, _ => []
  | .cons t r, l => (match l with | f :: l' => t.rowsOf P f.type ++ r.rowsOf P l' | [] => [])
end

/-- of the rows of these types at B or above none has turned -/
def Spared (B : Nat) (X : List TypeId) (W W' : World) : Prop := ∀ k c te fz, B ≤ k → te ∈ X → W.heap[k]? = some (.cells c te fz) → W'.heap[k]? = W.heap[k]?
theorem Spared.less {B : Nat} {X Y : List TypeId} {W W' : World} (h : Spared B X W W') (hs : ∀ t ∈ Y, t ∈ X) : Spared B Y W W' := fun k c te fz hk ht => h k c te fz hk (hs te ht)
theorem Spared.of_kept {B : Nat} {X : List TypeId} {W W' : World} {T : Sq.Blocks} (h : Sq.Kept T W W') (hT : ∀ k, B ≤ k → k < W.heap.size → T k) : Spared B X W W' :=
  fun k c te fz hk _ hh => h.block k (hT k hk (Array.getElem?_eq_some_iff.1 hh).1) (Array.getElem?_eq_some_iff.1 hh).1
theorem Spared.below {B : Nat} {X : List TypeId} {W W' : World} (h : Below W.heap.size W W') : Spared B X W W' :=
  fun k c te fz hk _ hh => h.block k (Array.getElem?_eq_some_iff.1 hh).1
theorem Spared.alloc {B : Nat} {X : List TypeId} (W : World) (o : Go.Obj) : Spared B X W (W.alloc o) := Spared.below ((Below.refl _ _).alloc (Nat.le_refl _) _)
/-- an append to a row of another type -/
theorem Spared.grown {B B' : Nat} {X : List TypeId} {W W' : World} {te : TypeId} {sz m : Nat} {v : Value} {xs : List Value} (hr : W.ownsRow B' te sz v m xs) (hg : W.grownBy W' v.ownBlock) (hX : te ∉ X) : Spared B X W W' := by
  intro k c t' fz hk ht hh
  refine hg.block k (Array.getElem?_eq_some_iff.1 hh).1 (fun e => ?_)
  rcases hr.2 with ⟨rfl, _⟩ | ⟨g, cap, cur, rfl, _, hgb, _⟩
  · simp [Value.ownBlock] at e
  · obtain rfl : k = g := by simpa [Value.ownBlock] using e
    rw [hgb] at hh
    injection hh with hh
    injection hh with _ h2 _
    exact hX (h2 ▸ ht)
/-- a store into an object of another type -/
theorem Spared.set {B : Nat} {X : List TypeId} {W : World} {b : Nat} {t : TypeId} {cs : List Value} (ho : Ob.Obj W b t cs) (j : Nat) (u : Value) (hX : t ∉ X) : Spared B X W (W.setCell ⟨b, j, none⟩ u) := by
  intro k c t' fz hk ht hh
  refine Below.heap_setCell _ _ _ _ (fun e => ?_)
  simp only at e
  subst e
  have := (show W.heap[k]? = _ from ho).symm.trans hh
  injection this with h1
  injection h1 with _ h2 _
  exact hX (h2 ▸ ht)
theorem row_spared {B : Nat} {X : List TypeId} {W W' : World} {te : TypeId} {sz m : Nat} {v : Value} {xs : List Value} (h : W.ownsRow B te sz v m xs) (hs : Spared B X W W') (ht : te ∈ X) : W'.ownsRow B te sz v m xs := by
  rcases h with ⟨h0, h1 | ⟨g, cap, cur, h1, h2, h3, h4⟩⟩
  · exact ⟨h0, .inl h1⟩
  · exact ⟨h0, .inr ⟨g, cap, cur, h1, h2, (hs g _ te _ h2 ht h3).trans h3, h4⟩⟩
theorem row_lower {W : World} {B B' : Nat} {e : TypeId} {sz m : Nat} {v : Value} {xs : List Value} (h : W.ownsRow B e sz v m xs) (hB : B' ≤ B) : W.ownsRow B' e sz v m xs := by
  rcases h with ⟨h0, h1 | ⟨g, cap, cur, h1, h2, h3, h4⟩⟩
  · exact ⟨h0, .inl h1⟩
  · exact ⟨h0, .inr ⟨g, cap, cur, h1, Nat.le_trans hB h2, h3, h4⟩⟩
mutual
theorem OwC.spared {P : Program} {B : Nat} {W W' : World} : ∀ (t : Ty) {ti : TypeId} {cs : List Value} {d : t.Den}, OwC P B W t ti cs d → Spared B (t.rowsOf P ti) W W' → OwC P B W' t ti cs d
  | .int k, _, cs, d, h, _ => h
  | .bool, _, cs, d, h, _ => h
  | .str, _, cs, d, h, _ => h
  | .slice e, ti, cs, d, h, hs => by
    obtain ⟨te, v, hu, h1, rows, h2, h3, h4⟩ := h
    have hro : (Ty.slice e).rowsOf P ti = te :: e.rowsOf P te := by simp only [Ty.rowsOf, hu]
    rw [hro] at hs
    exact ⟨te, v, hu, h1, rows, h2, row_spared h3 hs (List.mem_cons_self ..), fun j hj hj' => ⟨(h4 j hj hj').1, OwC.spared e (h4 j hj hj').2 (hs.less (fun t ht => List.mem_cons_of_mem _ ht))⟩⟩
  | .struct fs, ti, cs, d, h, hs => by
    obtain ⟨Fs, hu, h⟩ := h
    have hro : (Ty.struct fs).rowsOf P ti = fs.rowsOf P Fs.toList := by simp only [Ty.rowsOf, hu]
    rw [hro] at hs
    exact ⟨Fs, hu, OwCs.spared fs h hs⟩
theorem OwCs.spared {P : Program} {B : Nat} {W W' : World} : ∀ (fs : Tys) {l : List Field} {cs : List Value} {d : fs.Den}, OwCs P B W fs l cs d → Spared B (fs.rowsOf P l) W W' → OwCs P B W' fs l cs d
  | .nil, l, cs, d, h, _ => h
  | .cons t r, l, cs, d, h, hs => by
    obtain ⟨f, l', c1, c2, rfl, h2, h3, h4, h5⟩ := h
    have hro : (Tys.cons t r).rowsOf P (f :: l') = t.rowsOf P f.type ++ r.rowsOf P l' := rfl
    rw [hro] at hs
    exact ⟨f, l', c1, c2, rfl, h2, h3, OwC.spared t h4 (hs.less (fun t ht => List.mem_append_left _ ht)), OwCs.spared r h5 (hs.less (fun t ht => List.mem_append_right _ ht))⟩
end
mutual
theorem OwC.lower {P : Program} {B B' : Nat} {W : World} (hB : B' ≤ B) : ∀ (t : Ty) {ti : TypeId} {cs : List Value} {d : t.Den}, OwC P B W t ti cs d → OwC P B' W t ti cs d
  | .int k, _, cs, d, h => h
  | .bool, _, cs, d, h => h
  | .str, _, cs, d, h => h
  | .slice e, ti, cs, d, h => by
    obtain ⟨te, v, hu, h1, rows, h2, h3, h4⟩ := h
    exact ⟨te, v, hu, h1, rows, h2, row_lower h3 hB, fun j hj hj' => ⟨(h4 j hj hj').1, OwC.lower hB e (h4 j hj hj').2⟩⟩
  | .struct fs, ti, cs, d, h => by
    obtain ⟨Fs, hu, h⟩ := h
    exact ⟨Fs, hu, OwCs.lower hB fs h⟩
theorem OwCs.lower {P : Program} {B B' : Nat} {W : World} (hB : B' ≤ B) : ∀ (fs : Tys) {l : List Field} {cs : List Value} {d : fs.Den}, OwCs P B W fs l cs d → OwCs P B' W fs l cs d
  | .nil, l, cs, d, h => h
  | .cons t r, l, cs, d, h => by
    obtain ⟨f, l', c1, c2, rfl, h2, h3, h4, h5⟩ := h
    exact ⟨f, l', c1, c2, rfl, h2, h3, OwC.lower hB t h4, OwCs.lower hB r h5⟩
end
theorem flatten_get {sz : Nat} : ∀ (rows : List (List Value)), (∀ j (h : j < rows.length), rows[j].length = sz) → ∀ j (h : j < rows.length) k, k < sz → rows.flatten[j * sz + k]? = rows[j][k]?
  | [], _, j, h, _, _ => by simp at h
  | r :: rs, hl, 0, _, k, hk => by
    have h0 := hl 0 (by simp)
    simp only [List.getElem_cons_zero] at h0
    rw [List.flatten_cons, Nat.zero_mul, Nat.zero_add, List.getElem?_append_left (by omega)]
    rfl
  | r :: rs, hl, j + 1, h, k, hk => by
    have h0 := hl 0 (by simp)
    simp only [List.getElem_cons_zero] at h0
    have := flatten_get rs (fun i hi => by have := hl (i + 1) (by simpa using hi); simpa using this) j (by simpa using h) k hk
    rw [List.flatten_cons, List.getElem?_append_right (by rw [h0, Nat.succ_mul]; omega), h0, show (j + 1) * sz + k - sz = j * sz + k by rw [Nat.succ_mul]; omega]
    exact this
theorem flatten_len {sz : Nat} : ∀ (rows : List (List Value)), (∀ j (h : j < rows.length), rows[j].length = sz) → rows.flatten.length = rows.length * sz
  | [], _ => by simp
  | r :: rs, hl => by
    have h0 := hl 0 (by simp)
    simp only [List.getElem_cons_zero] at h0
    rw [List.flatten_cons, List.length_append, h0, flatten_len rs (fun i hi => by have := hl (i + 1) (by simpa using hi); simpa using this), List.length_cons, Nat.succ_mul]
    omega
theorem row_at {W : World} {B : Nat} {te : TypeId} {sz m : Nat} {v : Value} {xs : List Value} (h : W.ownsRow B te sz v m xs) :
    ∃ (a : Option Addr) (cap b : Nat), v = .slice a m cap ∧ m ≤ cap ∧ cap ≤ maxLen ∧ (0 < m → a = some ⟨b, 0, none⟩ ∧ B ≤ b ∧ b < W.heap.size ∧ ∀ j, j < m * sz → W.cell? ⟨b, j, none⟩ = xs[j]?) := by
  have hc := h
  rcases h.2 with ⟨rfl, rfl⟩ | ⟨g, cap, cur, rfl, h2, h3, h4, h5, h6⟩
  · exact ⟨none, 0, 0, rfl, Nat.le_refl _, Nat.zero_le _, fun h => by omega⟩
  · refine ⟨_, cap, g, rfl, h4, h5, fun _ => ⟨rfl, h2, (Array.getElem?_eq_some_iff.1 h3).1, fun j hj => ?_⟩⟩
    exact hc.cellAt j hj
mutual
theorem OwC.rd {P : Program} {B : Nat} {W : World} : ∀ (t : Ty) {ti : TypeId} {cs : List Value} {d : t.Den}, OwC P B W t ti cs d → RdC W.heap.size W t cs d
  | .int k, _, cs, d, h => h
  | .bool, _, cs, d, h => h
  | .str, _, cs, d, h => h
  | .slice e, ti, cs, d, h => by
    obtain ⟨te, v, hu, rfl, rows, h2, h3, h4⟩ := h
    obtain ⟨a, cap, b, rfl, g1, g2, g3⟩ := row_at h3
    refine ⟨a, cap, b, 0, rfl, g1, g2, fun h => ⟨(g3 h).1, (g3 h).2.2.1⟩, fun j hj => ?_⟩
    have hj' : j < rows.length := by omega
    obtain ⟨k1, k2⟩ := h4 j hj hj'
    refine ⟨rows[j], k1, fun k hk => ?_, OwC.rd e k2⟩
    have hlt : j * e.size + k < d.length * e.size := by
      have : (j + 1) * e.size ≤ d.length * e.size := Nat.mul_le_mul_right _ (by omega)
      rw [Nat.succ_mul] at this; omega
    rw [Nat.zero_add, (g3 (by omega)).2.2.2 _ hlt, flatten_get rows (fun i hi => (h4 i (by omega) hi).1) j hj' k hk]
  | .struct fs, ti, cs, d, h => by
    obtain ⟨Fs, hu, h⟩ := h
    exact OwCs.rd fs h
theorem OwCs.rd {P : Program} {B : Nat} {W : World} : ∀ (fs : Tys) {l : List Field} {cs : List Value} {d : fs.Den}, OwCs P B W fs l cs d → RdCs W.heap.size W fs cs d
  | .nil, l, cs, d, h => h
  | .cons t r, l, cs, d, h => by
    obtain ⟨f, l', c1, c2, rfl, h2, h3, h4, h5⟩ := h
    exact ⟨c1, c2, h2, h3, OwC.rd t h4, OwCs.rd r h5⟩
end
theorem OwL.nil {W : World} {B : Nat} {te : TypeId} {sz : Nat} {α : Type} {ow : List Value → α → Prop} : OwL W B te sz ow (.slice none 0 0) ([] : List α) :=
  ⟨[], rfl, World.ownsRow_nil _ _ _ _, fun j h => by simp at h⟩
/-- behind the append of one element: its row may lie elsewhere now -/
theorem OwL.snoc {P : Program} {W W2 : World} {B : Nat} {te : TypeId} {e : Ty} {v v2 : Value} {l : List e.Den} {rows : List (List Value)} {cs : List Value} {x : e.Den}
    (hr : rows.length = l.length) (hel : ∀ j (h : j < l.length) (h' : j < rows.length), rows[j].length = e.size ∧ OwC P B W e te rows[j] l[j]) (hx : OwC P B W e te cs x) (hcs : cs.length = e.size)
    (hown : W2.ownsRow B te e.size v2 (l.length + 1) (rows.flatten ++ cs)) (hs : Spared B (e.rowsOf P te) W W2) : OwL W2 B te e.size (OwC P B W2 e te) v2 (l ++ [x]) := by
  refine ⟨rows ++ [cs], by simp [hr], ?_, fun j h h' => ?_⟩
  · rw [List.length_append, List.length_singleton, List.flatten_append]
    simpa using hown
  · by_cases hj : j < l.length
    · rw [List.getElem_append_left hj, List.getElem_append_left (by omega)]
      exact ⟨(hel j hj (by omega)).1, OwC.spared e (hel j hj (by omega)).2 hs⟩
    · obtain rfl : j = l.length := by simp at h; omega
      rw [List.getElem_append_right (Nat.le_refl _), List.getElem_append_right (by omega)]
      simp only [Nat.sub_self, List.getElem_cons_zero, hr]
      exact ⟨hcs, OwC.spared e hx hs⟩
end Gn
end Go.Proofs.Ytfkfckohajpcfaa

/-
  Plain mathematics of chapter 5 (wal): puts, batches, their loads; a load tells its batch. No program is named here.
-/
namespace Go.Proofs.Ytfkfckohajpcfaa
namespace Cd
/-- what is read as a number is just that number's bytes -/
theorem takeGo_canon (l : List UInt8) : ∀ (i acc n j : Nat), i ≤ 9 → takeGo l i acc = (n, j, 0) → ∃ m, n = acc + m * 128 ^ i ∧ j = i + (putU m).length ∧ l = putU m ++ l.drop (putU m).length ∧ (0 < i → m ≠ 0) := by
  induction l with
  | nil => intro i acc n j _ h; simp [takeGo] at h
  | cons c r ih =>
    intro i acc n j hi h
    by_cases hbad : (i = 9 ∧ 1 < c.toNat) ∨ (0 < i ∧ c.toNat = 0)
    · rw [go_bad hbad] at h; simp at h
    · have hcb := c.toNat_lt
      by_cases hc : c.toNat < 128
      · rw [go_last hbad hc] at h
        have hp : putU c.toNat = [c] := by rw [putU, if_pos hc]; simp
        refine ⟨c.toNat, ?_, ?_, ?_, fun h0 e => hbad (.inr ⟨h0, e⟩)⟩
        · have := congrArg (·.1) h; simp only at this; rw [← this, Nat.mod_eq_of_lt hc]
        · have := congrArg (·.2.1) h; simp only at this; rw [hp]; exact this.symm
        · rw [hp]; rfl
      · rw [go_more hbad (by omega)] at h
        have hi9 : i + 1 ≤ 9 := by
          by_cases h9 : i = 9
          · exact absurd (.inl ⟨h9, by omega⟩) hbad
          · omega
        obtain ⟨m', h1, h2, h3, h4⟩ := ih (i + 1) _ n j hi9 h
        have hm0 := h4 (by omega)
        refine ⟨c.toNat % 128 + 128 * m', ?_, ?_, ?_, fun _ => by omega⟩
        · rw [h1, pow_s, Nat.add_mul, ← Nat.add_assoc]; congr 1; rw [← Nat.mul_assoc, Nat.mul_comm m' 128]
        · have e : putU (c.toNat % 128 + 128 * m') = UInt8.ofNat ((c.toNat % 128 + 128 * m') % 128 + 128) :: putU ((c.toNat % 128 + 128 * m') / 128) := by rw [putU, if_neg (by omega)]
          rw [e, show (c.toNat % 128 + 128 * m') / 128 = m' by omega, List.length_cons, h2]; omega
        · have e : putU (c.toNat % 128 + 128 * m') = UInt8.ofNat ((c.toNat % 128 + 128 * m') % 128 + 128) :: putU ((c.toNat % 128 + 128 * m') / 128) := by rw [putU, if_neg (by omega)]
          have ec : UInt8.ofNat ((c.toNat % 128 + 128 * m') % 128 + 128) = c := by
            rw [show (c.toNat % 128 + 128 * m') % 128 + 128 = c.toNat by omega]; simp
          rw [e, ec, show (c.toNat % 128 + 128 * m') / 128 = m' by omega, List.length_cons, List.drop_succ_cons, List.cons_append, ← h3]
theorem takeU_canon {l : List UInt8} {n k : Nat} (h : takeU l = (n, k, 0)) : l = putU n ++ l.drop k := by
  obtain ⟨m, h1, h2, h3, _⟩ := takeGo_canon l 0 0 n k (by omega) h
  obtain rfl : n = m := by simpa using h1
  rw [show k = (putU n).length by omega]
  exact h3
theorem takeT_canon {l t : List UInt8} {most : Int} {k : Nat} (h : takeT l most = (t, k, 0)) : l = putT t ++ l.drop k := by
  obtain ⟨n, k0, e, hu⟩ : ∃ n k0 e, takeU l = (n, k0, e) := ⟨_, _, _, rfl⟩
  by_cases he : e = 0
  · subst he
    have hl := (takeU_ok l).2.2.1
    rw [hu] at hl
    simp only at hl
    by_cases h1 : most.toNat < n
    · rw [takeT_most hu h1] at h; simp at h
    · by_cases h2 : l.length - k0 < n
      · rw [takeT_more hu (by omega) h2] at h; simp at h
      · rw [takeT_text hu (by omega) (by omega)] at h
        obtain rfl : (l.drop k0).take n = t := congrArg (·.1) h
        obtain rfl : k0 + n = k := congrArg (·.2.1) h
        have hc := takeU_canon hu
        unfold putT
        have hlen : ((l.drop k0).take n).length = n := by rw [List.length_take, List.length_drop]; omega
        rw [hlen, List.append_assoc, ← List.drop_drop, List.take_append_drop]
        exact hc
  · rw [takeT_err hu he] at h
    exact absurd (congrArg (·.2.2) h) he
end Cd

namespace Wa
open Fi (Dat TkS tkNum tkText)
abbrev putT : Gn.Ty := .struct (.cons .str (.cons .str (.cons .bool .nil)))
abbrev batchT : Gn.Ty := .struct (.cons (.int .u64) (.cons (.slice putT) .nil))
/-- a put: its key, its value, whether it takes away -/
abbrev Pt := List UInt8 × List UInt8 × Bool × Unit
abbrev Bt := Int × List Pt × Unit
/-- P5.2: may a put be? -/
def mayB (p : Pt) : Bool := decide (1 ≤ p.1.length) && decide (p.1.length ≤ 96) && decide (p.2.1.length ≤ 16384) && (!p.2.2.1 || decide (p.2.1 = []))
/-- P5.3: a put as bytes -/
def putB (p : Pt) : Dat := if p.2.2.1 = true then 1 :: Cd.putT p.1 else 0 :: (Cd.putT p.1 ++ Cd.putT p.2.1)
def load (seq : Nat) (l : List Pt) : Dat := Cd.putU seq ++ Cd.putU l.length ++ l.flatMap putB
def MaxSeq : Nat := 1125899906842624
/-- P5.2: Check -/
def check (l : List Pt) : Nat := if l.length ≤ 256 ∧ (∀ p ∈ l, mayB p = true) ∧ (load MaxSeq l).length ≤ 262144 then 0 else 1
/-- P5.3: may a batch be? -/
def Right (b : Bt) : Prop := check b.2.1 = 0 ∧ 0 < b.2.1.length ∧ 1 ≤ b.1 ∧ b.1 ≤ MaxSeq ∧ b.1 + b.2.1.length - 1 ≤ MaxSeq
instance (b : Bt) : Decidable (Right b) := by unfold Right; infer_instance
/-- P5.3: Encode -/
def encode (b : Bt) : Dat × Nat := if Right b then Fr.put 2 (load b.1.toNat b.2.1) else ([], 1)
def IsLoad (l : Dat) (b : Bt) : Prop := Right b ∧ load b.1.toNat b.2.1 = l
open Classical in
/-- P5.4: Decode -/
noncomputable def decode (l : Dat) : Option Bt := if h : ∃ b, IsLoad l b then some h.choose else none
def last (b : Bt) : Int := b.1 + b.2.1.length - 1
/-- P5.5, over the frames that stand one behind the other: each with its place; the place behind all -/
noncomputable def repGo : List (Nat × (UInt8 × Dat)) → Int → Nat → List Bt × Nat
  | [], _, e => ([], e)
  | x :: r, seq, e =>
    match (if x.2.1 = 2 then decode x.2.2 else none) with
    | some b => if seq < b.1 then (b :: (repGo r (last b) e).1, (repGo r (last b) e).2) else ([], x.1)
    | none => ([], x.1)
noncomputable def replay (s : Dat) : List Bt × Nat := repGo (Fr.allGo s 0).1 0 (Fr.allGo s 0).2

/-! ### a load tells its batch -/
theorem putB_inj {p q : Pt} {x y : Dat} (hp : mayB p = true) (hq : mayB q = true) (h : putB p ++ x = putB q ++ y) : p = q ∧ x = y := by
  obtain ⟨pk, pv, pd, _⟩ := p
  obtain ⟨qk, qv, qd, _⟩ := q
  simp [mayB] at hp hq
  cases pd <;> cases qd <;> simp only [putB, if_true, if_false, Bool.false_eq_true, List.cons_append] at h
  · have h' := List.cons.inj h
    have h2 := h'.2
    rw [List.append_assoc, List.append_assoc] at h2
    obtain ⟨e1, h3⟩ := Fi.putT_inj (by omega) (by omega) h2
    obtain ⟨e2, h4⟩ := Fi.putT_inj (by omega) (by omega) h3
    exact ⟨by rw [e1, e2], h4⟩
  · exact absurd (List.cons.inj h).1 (by decide)
  · exact absurd (List.cons.inj h).1 (by decide)
  · obtain ⟨e1, h3⟩ := Fi.putT_inj (by omega) (by omega) (List.cons.inj h).2
    have v1 := hp.2
    have v2 := hq.2
    simp at v1 v2
    exact ⟨by rw [e1, v1, v2], h3⟩
theorem puts_inj : ∀ {L L' : List Pt} {x y : Dat}, L.length = L'.length → (∀ p ∈ L, mayB p = true) → (∀ p ∈ L', mayB p = true) → L.flatMap putB ++ x = L'.flatMap putB ++ y → L = L' ∧ x = y
  | [], [], x, y, _, _, _, h => ⟨rfl, by simpa using h⟩
  | [], q :: r, _, _, hl, _, _, _ => by simp at hl
  | p :: r, [], _, _, hl, _, _, _ => by simp at hl
  | p :: r, q :: r', x, y, hl, hp, hq, h => by
    rw [List.flatMap_cons, List.flatMap_cons, List.append_assoc, List.append_assoc] at h
    obtain ⟨h1, h2⟩ := putB_inj (hp p (List.mem_cons_self ..)) (hq q (List.mem_cons_self ..)) h
    obtain ⟨h3, h4⟩ := puts_inj (by simpa using hl) (fun z hz => hp z (List.mem_cons_of_mem _ hz)) (fun z hz => hq z (List.mem_cons_of_mem _ hz)) h2
    exact ⟨by rw [h1, h3], h4⟩
theorem check_ok {l : List Pt} (h : check l = 0) : l.length ≤ 256 ∧ (∀ p ∈ l, mayB p = true) ∧ (load MaxSeq l).length ≤ 262144 := by
  unfold check at h
  split at h
  · assumption
  · cases h
theorem isLoad_same {l : Dat} {b c : Bt} (h1 : IsLoad l b) (h2 : IsLoad l c) : b = c := by
  obtain ⟨⟨r1, r2, r3, r4, r5⟩, e1⟩ := h1
  obtain ⟨⟨s1, s2, s3, s4, s5⟩, e2⟩ := h2
  obtain ⟨bs, bp, _⟩ := b
  obtain ⟨cs, cp, _⟩ := c
  simp only at *
  obtain ⟨k1, k2, _⟩ := check_ok r1
  obtain ⟨m1, m2, _⟩ := check_ok s1
  have hM : MaxSeq = 1125899906842624 := rfl
  rw [← e2] at e1
  unfold load at e1
  rw [List.append_assoc, List.append_assoc] at e1
  obtain ⟨a1, a2⟩ := Fi.putU_inj (by omega) (by omega) e1
  obtain ⟨b1, b2⟩ := Fi.putU_inj (by omega) (by omega) a2
  obtain ⟨c1, _⟩ := puts_inj (x := []) (y := []) b1 k2 m2 (by simpa using b2)
  rw [c1, show bs = cs by omega]
theorem decode_iff {l : Dat} {b : Bt} : decode l = some b ↔ IsLoad l b := by
  unfold decode
  constructor
  · intro h
    split at h
    · rename_i hx
      rw [← Option.some.inj h]
      exact hx.choose_spec
    · cases h
  · intro h
    have hx : ∃ b, IsLoad l b := ⟨b, h⟩
    rw [dif_pos hx]
    exact congrArg some (isLoad_same hx.choose_spec h)
theorem decode_none {l : Dat} : decode l = none ↔ ∀ b, ¬ IsLoad l b := by
  unfold decode
  constructor
  · intro h b hb
    rw [dif_pos ⟨b, hb⟩] at h
    cases h
  · intro h
    rw [dif_neg (fun ⟨b, hb⟩ => h b hb)]

/-! ### reading one, thing by thing, as the document does -/
def rdPut (s : TkS) : Pt × TkS :=
  if (tkNum 1 s).1 = 0 then (((tkText 96 (tkNum 1 s).2).1, (tkText 16384 (tkText 96 (tkNum 1 s).2).2).1, false, ()), (tkText 16384 (tkText 96 (tkNum 1 s).2).2).2)
  else (((tkText 96 (tkNum 1 s).2).1, [], true, ()), (tkText 96 (tkNum 1 s).2).2)
def rdPuts : Nat → List Pt → TkS → List Pt × TkS
  | 0, l, s => (l, s)
  | k + 1, l, s => if s.2 = true then (l, s) else rdPuts k (l ++ [(rdPut s).1]) (rdPut s).2
def rdCount (s : TkS) : Nat × TkS := tkNum 256 (tkNum MaxSeq s).2
def rdAll (s : TkS) : List Pt × TkS := rdPuts (rdCount s).1 [] (rdCount s).2
def rdB (l : Dat) : Bt := (((tkNum MaxSeq (l, false)).1 : Int), (rdAll (l, false)).1, ())
def decR (l : Dat) : Option Bt := if (rdAll (l, false)).2 = ([], false) ∧ Right (rdB l) then some (rdB l) else none

theorem tkNum_sound {most : Nat} {s : TkS} (h : (tkNum most s).2.2 = false) : s.2 = false ∧ s.1 = Cd.putU (tkNum most s).1 ++ (tkNum most s).2.1 := by
  unfold tkNum at h ⊢
  split at h
  · simp at h
  · rename_i hx
    rw [if_neg hx]
    simp only at h ⊢
    refine ⟨h, Cd.takeU_canon (k := (Cd.takeU s.1).2.1) ?_⟩
    have h0 : (Cd.takeU s.1).2.2 = 0 := by
      by_cases h0 : (Cd.takeU s.1).2.2 = 0
      · exact h0
      · exact absurd (.inr (.inl h0)) hx
    rw [← h0]
theorem tkText_sound {most : Nat} {s : TkS} (h : (tkText most s).2.2 = false) : s.2 = false ∧ s.1 = Cd.putT (tkText most s).1 ++ (tkText most s).2.1 := by
  unfold tkText at h ⊢
  split at h
  · simp at h
  · rename_i hx
    rw [if_neg hx]
    simp only at h ⊢
    refine ⟨h, Cd.takeT_canon (most := most) (k := (Cd.takeT s.1 most).2.1) ?_⟩
    have h0 : (Cd.takeT s.1 most).2.2 = 0 := by
      by_cases h0 : (Cd.takeT s.1 most).2.2 = 0
      · exact h0
      · exact absurd (.inr h0) hx
    rw [← h0]
theorem putU_0 : Cd.putU 0 = [0] := by rw [Cd.putU]; rfl
theorem putU_1 : Cd.putU 1 = [1] := by rw [Cd.putU]; rfl
theorem rdPut_sound {s : TkS} (h : (rdPut s).2.2 = false) : s.2 = false ∧ s.1 = putB (rdPut s).1 ++ (rdPut s).2.1 := by
  unfold rdPut at h ⊢
  split at h
  · rename_i hx
    rw [if_pos hx]
    simp only at h ⊢
    obtain ⟨h1, e1⟩ := tkText_sound h
    obtain ⟨h2, e2⟩ := tkText_sound h1
    obtain ⟨h3, e3⟩ := tkNum_sound h2
    refine ⟨h3, ?_⟩
    rw [hx, putU_0] at e3
    rw [e3, e2, e1]
    simp [putB]
  · rename_i hx
    rw [if_neg hx]
    simp only at h ⊢
    obtain ⟨h2, e2⟩ := tkText_sound h
    obtain ⟨h3, e3⟩ := tkNum_sound h2
    have hle := Fi.tkNum_le 1 s
    refine ⟨h3, ?_⟩
    rw [show (tkNum 1 s).1 = 1 by omega, putU_1] at e3
    rw [e3, e2]
    simp [putB]
theorem rdPuts_sound : ∀ (k : Nat) (l : List Pt) (s : TkS), (rdPuts k l s).2.2 = false → s.2 = false ∧ ∃ L, (rdPuts k l s).1 = l ++ L ∧ L.length = k ∧ s.1 = L.flatMap putB ++ (rdPuts k l s).2.1
  | 0, l, s, h => ⟨h, [], by simp [rdPuts], rfl, by simp [rdPuts]⟩
  | k + 1, l, s, h => by
    rw [rdPuts] at h ⊢
    split at h
    · rename_i hs; rw [hs] at h; cases h
    · rename_i hs
      rw [if_neg hs]
      obtain ⟨h1, L, e1, e2, e3⟩ := rdPuts_sound k _ _ h
      obtain ⟨h2, e4⟩ := rdPut_sound h1
      exact ⟨h2, (rdPut s).1 :: L, by rw [e1, List.append_assoc]; rfl, by rw [List.length_cons, e2], by rw [List.flatMap_cons, List.append_assoc, ← e3]; exact e4⟩
theorem rdPut_put {p : Pt} {x : Dat} (hp : mayB p = true) : rdPut (putB p ++ x, false) = (p, (x, false)) := by
  obtain ⟨pk, pv, pd, _⟩ := p
  simp [mayB] at hp
  cases pd
  · have e1 : tkNum 1 (putB (pk, pv, false, ()) ++ x, false) = (0, (Cd.putT pk ++ (Cd.putT pv ++ x), false)) := by
      have := Fi.tkNum_put (most := 1) (a := 0) (Cd.putT pk ++ (Cd.putT pv ++ x)) (by omega) (by omega)
      rw [putU_0] at this
      simpa [putB] using this
    unfold rdPut
    rw [e1]
    simp only [if_true]
    rw [Fi.tkText_put _ (by omega) (by omega)]
    simp only
    rw [Fi.tkText_put _ (by omega) (by omega)]
  · have e1 : tkNum 1 (putB (pk, pv, true, ()) ++ x, false) = (1, (Cd.putT pk ++ x, false)) := by
      have := Fi.tkNum_put (most := 1) (a := 1) (Cd.putT pk ++ x) (by omega) (by omega)
      rw [putU_1] at this
      simpa [putB] using this
    unfold rdPut
    rw [e1]
    simp only
    rw [if_neg (by omega), Fi.tkText_put _ (by omega) (by omega)]
    have := hp.2
    simp at this
    rw [this]
theorem rdPuts_put : ∀ (L l : List Pt) (x : Dat), (∀ p ∈ L, mayB p = true) → rdPuts L.length l (L.flatMap putB ++ x, false) = (l ++ L, (x, false))
  | [], l, x, _ => by simp [rdPuts]
  | p :: r, l, x, h => by
    rw [List.length_cons, rdPuts, if_neg (by simp), List.flatMap_cons, List.append_assoc, rdPut_put (h p (List.mem_cons_self ..))]
    simp only
    rw [rdPuts_put r _ x (fun q hq => h q (List.mem_cons_of_mem _ hq)), List.append_assoc]
    rfl
theorem decR_decode (l : Dat) : decR l = decode l := by
  have hM : MaxSeq = 1125899906842624 := rfl
  cases hd : decode l with
  | some b =>
    obtain ⟨hr, hl⟩ := decode_iff.1 hd
    have hr0 := hr
    obtain ⟨r1, r2, r3, r4, r5⟩ := hr
    obtain ⟨k1, k2, _⟩ := check_ok r1
    have e1 : tkNum MaxSeq (l, false) = (b.1.toNat, (Cd.putU b.2.1.length ++ (b.2.1.flatMap putB ++ []), false)) := by
      rw [← hl]; unfold load
      rw [List.append_assoc, List.append_nil]
      exact Fi.tkNum_put _ (by omega) (by omega)
    have e2 : rdCount (l, false) = (b.2.1.length, (b.2.1.flatMap putB ++ [], false)) := by
      unfold rdCount
      rw [e1]
      exact Fi.tkNum_put _ k1 (by omega)
    have e3 : rdAll (l, false) = (b.2.1, ([], false)) := by
      unfold rdAll
      rw [e2]
      have := rdPuts_put b.2.1 [] [] k2
      simpa using this
    have e4 : rdB l = b := by
      unfold rdB
      rw [e3, e1]
      obtain ⟨bs, bp, _⟩ := b
      simp only at r3 ⊢
      rw [show ((bs.toNat : Nat) : Int) = bs by omega]
    unfold decR
    rw [e3, e4, if_pos ⟨rfl, hr0⟩]
  | none =>
    have hn := decode_none.1 hd
    unfold decR
    split
    · rename_i h
      refine absurd ⟨h.2, ?_⟩ (hn (rdB l))
      have h1 := h.1
      have hb : (rdPuts (rdCount (l, false)).1 [] (rdCount (l, false)).2).2.2 = false := congrArg (·.2) h1
      obtain ⟨g1, L, g2, g3, g4⟩ := rdPuts_sound _ _ _ hb
      have hrest : (rdPuts (rdCount (l, false)).1 [] (rdCount (l, false)).2).2.1 = [] := congrArg (·.1) h1
      rw [hrest, List.append_nil] at g4
      obtain ⟨g5, g6⟩ := tkNum_sound (s := (tkNum MaxSeq (l, false)).2) (most := 256) g1
      obtain ⟨_, g7⟩ := tkNum_sound (s := (l, false)) (most := MaxSeq) g5
      have hL : (rdB l).2.1 = L := by unfold rdB rdAll; rw [g2]; rfl
      unfold load
      rw [hL]
      show Cd.putU (((tkNum MaxSeq (l, false)).1 : Int)).toNat ++ Cd.putU L.length ++ L.flatMap putB = l
      have g7' : l = Cd.putU (tkNum MaxSeq (l, false)).1 ++ (tkNum MaxSeq (l, false)).2.1 := g7
      have hk : L.length = (tkNum 256 (tkNum MaxSeq (l, false)).2).1 := g3
      rw [Int.toNat_natCast, hk, List.append_assoc, ← g4]
      exact (congrArg (Cd.putU (tkNum MaxSeq (l, false)).1 ++ ·) g6).symm.trans g7'.symm
    · rfl
end Wa
end Go.Proofs.Ytfkfckohajpcfaa

/-
  Plain mathematics of P13.4, P13.5: a program's bytes, and what bytes say. No program is named here.
-/
namespace Go.Proofs.Ytfkfckohajpcfaa
set_option linter.unusedVariables false
set_option linter.unusedSimpArgs false
namespace Co
abbrev Dat : Type := List UInt8
def putI (a : Int) : Dat := Cd.putU (Cd.zig a)
def putOp (o : Op2) : Dat := Cd.putU o.code.toNat ++ (if operandB o.code = true then putI o.a else [])
def headF (f : Fn) : Dat := Cd.putU f.kind.toNat ++ Cd.putU f.name.toNat ++ Cd.putU f.ops.length
def putFn (f : Fn) : Dat := headF f ++ f.ops.flatMap putOp
def nums (o : Opt) : List Int := [o.queue, o.start, o.close, o.total, o.beat, o.first, o.num, o.den, o.most, o.tries]
def putN (d : Int) : Dat := Cd.putU d.toNat
def putOpt (o : Opt) : Dat := (nums o).flatMap putN ++ putI o.never
def loadP (p : Prog) : Dat := Cd.putU p.funcs.length ++ p.funcs.flatMap putFn ++ Cd.putU p.opts.length ++ p.opts.flatMap putOpt
/-- what Encode answers -/
def encP (p : Prog) : Dat × Nat := if (check p).1 = 0 then (loadP p, 0) else ([], 40)
theorem check_cases (p : Prog) : (check p).1 = 40 ∨ check p = (0, 0, 0) := by
  unfold check
  split
  · exact .inl rfl
  · split
    · exact .inl rfl
    · split
      · exact .inl rfl
      · exact .inr rfl
/-- an instruction, a function, options, a program whose bytes may be read -/
structure OpOk (o : Op2) : Prop where
  c0 : 0 ≤ o.code
  c1 : o.code ≤ 1099511627776
  no : operandB o.code = false → o.a = 0
  a : I64 o.a
structure FnOk (f : Fn) : Prop where
  k0 : 0 ≤ f.kind
  k1 : f.kind ≤ 1099511627776
  n0 : 0 ≤ f.name
  n1 : f.name ≤ 1099511627776
  l : f.ops.length ≤ 128
  ops : ∀ o ∈ f.ops, OpOk o
structure OptOk (o : Opt) : Prop where
  each : ∀ d ∈ nums o, 0 ≤ d ∧ d ≤ 1099511627776
  never : I64 o.never
structure POk (p : Prog) : Prop where
  nf : p.funcs.length ≤ 16
  no : p.opts.length ≤ 8
  fns : ∀ f ∈ p.funcs, FnOk f
  opts : ∀ o ∈ p.opts, OptOk o
theorem optB_ok {o : Opt} (h : optB o = true) (hn : I64 o.never) : OptOk o := by
  unfold optB waitB at h
  simp only [Bool.and_eq_true, decide_eq_true_eq] at h
  refine ⟨fun d hd => ?_, hn⟩
  unfold nums at hd
  simp only [List.mem_cons, List.not_mem_nil, or_false] at hd
  rcases hd with rfl | rfl | rfl | rfl | rfl | rfl | rfl | rfl | rfl | rfl <;> omega
theorem named_ok {p : Prog} {i : Nat} (hi : i < p.funcs.length) (h : namedB p i = true) : 0 ≤ p.funcs[i].kind ∧ p.funcs[i].kind ≤ 4 ∧ 0 ≤ p.funcs[i].name ∧ p.funcs[i].name ≤ 7 ∧ 1 ≤ p.funcs[i].ops.length ∧ p.funcs[i].ops.length ≤ 128 := by
  unfold namedB at h
  simp only [getElem!_pos p.funcs i hi, Bool.and_eq_true, decide_eq_true_eq] at h
  obtain ⟨⟨⟨⟨⟨⟨⟨⟨⟨h1, h2⟩, h3⟩, h4⟩, h5⟩, h6⟩, h7⟩, h8⟩, h9⟩, h10⟩ := h
  exact ⟨h1, h2, h5, h6, h9, h10⟩
theorem right_ok {p : Prog} {i k : Nat} (hi : i < p.funcs.length) (hk : k < p.funcs[i].ops.length) (h : rightB p i k = true) (ha : I64 p.funcs[i].ops[k].a) : OpOk p.funcs[i].ops[k] := by
  unfold rightB at h
  simp only [getElem!_pos p.funcs i hi, getElem!_pos p.funcs[i].ops k hk, Bool.and_eq_true, decide_eq_true_eq] at h
  obtain ⟨⟨⟨⟨⟨⟨h1, h2⟩, h3⟩, h4⟩, h5⟩, h6⟩, h7⟩ := h
  refine ⟨h1, by omega, fun hn => ?_, ha⟩
  unfold argB at h3
  rw [hn] at h3
  simpa using h3
theorem chkGo_none {p : Prog} : ∀ (n i : Nat), chkGo p i n = none → ∀ j, i ≤ j → j < i + n → namedB p j = true ∧ ∀ k, k < p.funcs[j]!.ops.length → rightB p j k = true
  | 0, i, _, j, h1, h2 => by omega
  | n + 1, i, h, j, h1, h2 => by
    rw [chkGo] at h
    split at h
    · rename_i hn
      split at h
      · cases h
      · rename_i hf
        rw [List.find?_eq_none] at hf
        by_cases hj : j = i
        · subst hj
          refine ⟨hn, fun k hk => ?_⟩
          have := hf k (List.mem_range.2 hk)
          simpa using this
        · exact chkGo_none n (i + 1) h j (by omega) (by omega)
    · cases h
/-- what a program that may be is -/
theorem check_pok {p : Prog} (hI : ProgIn p) (h : (check p).1 = 0) : POk p := by
  unfold check at h
  split at h
  · cases h
  · rename_i h1
    simp only [not_or] at h1
    split at h
    · cases h
    · rename_i h2
      rw [List.findIdx?_eq_none_iff] at h2
      split at h
      · cases h
      · rename_i h3
        have hg := chkGo_none p.funcs.length 0 h3
        refine ⟨by omega, by omega, fun f hf => ?_, fun o ho => optB_ok (by simpa using h2 o ho) (hI.opts o ho).2.2.2.2.2.2.2.2.2.2⟩
        obtain ⟨j, hj, rfl⟩ := List.getElem_of_mem hf
        obtain ⟨g1, g2⟩ := hg j (Nat.zero_le _) (by omega)
        obtain ⟨n1, n2, n3, n4, n5, n6⟩ := named_ok hj g1
        refine ⟨n1, by omega, n3, by omega, n6, fun o ho => ?_⟩
        obtain ⟨k, hk, rfl⟩ := List.getElem_of_mem ho
        exact right_ok hj hk (g2 k (by rw [getElem!_pos p.funcs j hj]; exact hk)) ((hI.fns _ hf).2.2.2 _ ho).2
theorem putI_len {a : Int} (h : I64 a) : (putI a).length ≤ 10 := Cd.putU_len10 _ (Cd.zig_lt a h.1 h.2)
theorem putN_len {d : Int} (h : 0 ≤ d ∧ d ≤ 1099511627776) : (putN d).length ≤ 10 := Cd.putU_len10 _ (by omega)
theorem putOp_len {o : Op2} (h : OpOk o) : (putOp o).length ≤ 20 := by
  have h1 := Cd.putU_len10 o.code.toNat (by have := h.c1; omega)
  have h2 := putI_len h.a
  unfold putOp
  rw [List.length_append]
  split
  · omega
  · simp only [List.length_nil]; omega
theorem flat_len {α : Type} (f : α → Dat) (m : Nat) : ∀ (L : List α), (∀ x ∈ L, (f x).length ≤ m) → (L.flatMap f).length ≤ m * L.length
  | [], _ => by simp
  | x :: r, h => by
    rw [List.flatMap_cons, List.length_append, List.length_cons]
    have h1 := h x (List.mem_cons_self ..)
    have h2 := flat_len f m r (fun q hq => h q (List.mem_cons_of_mem _ hq))
    rw [Nat.mul_add, Nat.mul_one]
    omega
theorem headF_len {f : Fn} (h : FnOk f) : (headF f).length ≤ 30 := by
  have h1 := Cd.putU_len10 f.kind.toNat (by have := h.k1; omega)
  have h2 := Cd.putU_len10 f.name.toNat (by have := h.n1; omega)
  have h3 := Cd.putU_len10 f.ops.length (by have := h.l; omega)
  unfold headF
  simp only [List.length_append]
  omega
theorem ops_len {L : List Op2} (h : ∀ o ∈ L, OpOk o) (hl : L.length ≤ 128) : (L.flatMap putOp).length ≤ 2560 := by
  have := flat_len putOp 20 L (fun x hx => putOp_len (h x hx))
  omega
theorem putFn_len {f : Fn} (h : FnOk f) : (putFn f).length ≤ 2590 := by
  have h1 := headF_len h
  have h2 := ops_len h.ops h.l
  unfold putFn
  rw [List.length_append]
  omega
theorem nums_len {o : Opt} (h : OptOk o) : ((nums o).flatMap putN).length ≤ 100 := by
  have := flat_len putN 10 (nums o) (fun x hx => putN_len (h.each x hx))
  have e : (nums o).length = 10 := rfl
  omega
theorem putOpt_len {o : Opt} (h : OptOk o) : (putOpt o).length ≤ 110 := by
  have h1 := nums_len h
  have h2 := putI_len h.never
  unfold putOpt
  rw [List.length_append]
  omega
theorem fns_len {L : List Fn} (h : ∀ o ∈ L, FnOk o) (hl : L.length ≤ 16) : (L.flatMap putFn).length ≤ 41440 := by
  have := flat_len putFn 2590 L (fun x hx => putFn_len (h x hx))
  omega
theorem opts_len {L : List Opt} (h : ∀ o ∈ L, OptOk o) (hl : L.length ≤ 8) : (L.flatMap putOpt).length ≤ 880 := by
  have := flat_len putOpt 110 L (fun x hx => putOpt_len (h x hx))
  omega
theorem loadP_len {p : Prog} (h : POk p) : (loadP p).length ≤ 42340 := by
  have h1 := fns_len h.fns h.nf
  have h2 := opts_len h.opts h.no
  have h3 := Cd.putU_len10 p.funcs.length (by have := h.nf; omega)
  have h4 := Cd.putU_len10 p.opts.length (by have := h.no; omega)
  unfold loadP
  simp only [List.length_append]
  omega
theorem flat_snoc {α : Type} (f : α → Dat) {L : List α} {q : Nat} (h : q < L.length) : (L.take (q + 1)).flatMap f = (L.take q).flatMap f ++ f L[q] := by
  rw [List.take_succ_eq_append_getElem h, List.flatMap_append]; simp
end Co
end Go.Proofs.Ytfkfckohajpcfaa

/-
  Plain mathematics of P13.5, P13.6: what bytes say, read from the left; by the document's reader and by one that goes on behind an error. No program is named here.
-/
namespace Go.Proofs.Ytfkfckohajpcfaa
set_option linter.unusedVariables false
set_option linter.unusedSimpArgs false
namespace Co
/-- where the reader stands; what was wrong first -/
abbrev RS : Type := Nat × Nat
def rdU (l : Dat) (most : Nat) (s : RS) : Nat × RS :=
  if s.2 ≠ 0 then (0, s) else if (Cd.takeU (l.drop s.1)).2.2 ≠ 0 then (0, (s.1, (Cd.takeU (l.drop s.1)).2.2))
  else if most < (Cd.takeU (l.drop s.1)).1 then (0, (s.1, 3)) else ((Cd.takeU (l.drop s.1)).1, (s.1 + (Cd.takeU (l.drop s.1)).2.1, 0))
def rdI (l : Dat) (s : RS) : Int × RS :=
  if s.2 ≠ 0 then (0, s) else if (Cd.takeU (l.drop s.1)).2.2 ≠ 0 then (0, (s.1, (Cd.takeU (l.drop s.1)).2.2))
  else (Cd.unzig (Cd.takeU (l.drop s.1)).1, (s.1 + (Cd.takeU (l.drop s.1)).2.1, 0))
/-- such a reader reads what such a writer wrote, and nothing else; what is wrong stays -/
structure Rd {α : Type} (P : Dat → RS → α × RS) (put : α → Dat) (ok : α → Prop) : Prop where
  stuck : ∀ l s, s.2 ≠ 0 → (P l s).2 = s
  ge : ∀ l s, s.1 ≤ (P l s).2.1
  le : ∀ l s, s.1 ≤ l.length → (P l s).2.1 ≤ l.length
  small : ∀ l s, s.2 ≤ 3 → (P l s).2.2 ≤ 3
  sound : ∀ l s, s.1 ≤ l.length → (P l s).2.2 = 0 → s.2 = 0 ∧ l.drop s.1 = put (P l s).1 ++ l.drop (P l s).2.1 ∧ ok (P l s).1
  whole : ∀ l n a x, ok a → l.drop n = put a ++ x → P l (n, 0) = (a, (n + (put a).length, 0))
theorem Rd.well {α : Type} {P : Dat → RS → α × RS} {put : α → Dat} {ok : α → Prop} (h : Rd P put ok) (l : Dat) (s : RS) (hz : (P l s).2.2 = 0) : s.2 = 0 := by
  by_cases h0 : s.2 = 0
  · exact h0
  · rw [h.stuck l s h0] at hz
    exact absurd hz h0
theorem drop_next {l : Dat} {n : Nat} {a x : Dat} (h : l.drop n = a ++ x) : l.drop (n + a.length) = x := by
  rw [← List.drop_drop, h, List.drop_left' rfl]
theorem rdU_rd (most : Nat) (hm : most < 18446744073709551616) : Rd (fun l s => rdU l most s) Cd.putU (fun a => a ≤ most) where
  stuck l s h := by simp only [rdU]; rw [if_pos h]
  ge l s := by
    simp only [rdU]
    split
    · exact Nat.le_refl _
    · split
      · exact Nat.le_refl _
      · split
        · exact Nat.le_refl _
        · exact Nat.le_add_right _ _
  le l s h := by
    have hk := (Cd.takeU_ok (l.drop s.1)).2.2.1
    rw [List.length_drop] at hk
    simp only [rdU]
    split
    · exact h
    · split
      · exact h
      · split
        · exact h
        · simp only; omega
  small l s h := by
    have hk := (Cd.takeU_ok (l.drop s.1)).2.2.2
    simp only [rdU]
    split
    · exact h
    · split
      · exact hk
      · split
        · exact Nat.le_refl _
        · exact Nat.zero_le _
  sound l s hl h := by
    simp only [rdU] at h ⊢
    split at h
    · rename_i h0; exact absurd h h0
    · rename_i h0
      split at h
      · rename_i h1; exact absurd h h1
      · rename_i h1
        split at h
        · cases h
        · rename_i h2
          rw [if_neg h0, if_neg h1, if_neg h2]
          refine ⟨by simpa using h0, ?_, by simp only; omega⟩
          have hc := Cd.takeU_canon (l := l.drop s.1) (n := (Cd.takeU (l.drop s.1)).1) (k := (Cd.takeU (l.drop s.1)).2.1) (by rw [show (0 : Nat) = (Cd.takeU (l.drop s.1)).2.2 by omega])
          rw [List.drop_drop] at hc
          exact hc
  whole l n a x ha h := by
    simp only [rdU]
    rw [h, Cd.takeU_putU a x (by omega)]
    simp only [ne_eq, not_true_eq_false, if_false]
    rw [if_neg (by omega)]
theorem rdI_rd : Rd rdI putI I64 where
  stuck l s h := by simp only [rdI]; rw [if_pos h]
  ge l s := by
    simp only [rdI]
    split
    · exact Nat.le_refl _
    · split
      · exact Nat.le_refl _
      · exact Nat.le_add_right _ _
  le l s h := by
    have hk := (Cd.takeU_ok (l.drop s.1)).2.2.1
    rw [List.length_drop] at hk
    simp only [rdI]
    split
    · exact h
    · split
      · exact h
      · simp only; omega
  small l s h := by
    have hk := (Cd.takeU_ok (l.drop s.1)).2.2.2
    simp only [rdI]
    split
    · exact h
    · split
      · exact hk
      · exact Nat.zero_le _
  sound l s hl h := by
    simp only [rdI] at h ⊢
    split at h
    · rename_i h0; exact absurd h h0
    · rename_i h0
      split at h
      · rename_i h1; exact absurd h h1
      · rename_i h1
        rw [if_neg h0, if_neg h1]
        have ho := (Cd.takeU_ok (l.drop s.1)).1
        have hz : ∀ n : Nat, n < 18446744073709551616 → Cd.zig (Cd.unzig n) = n ∧ I64 (Cd.unzig n) := fun n hn => by
          unfold Cd.zig Cd.unzig I64
          by_cases hd : n % 2 = 1
          · rw [if_pos hd, if_neg (by omega)]
            exact ⟨by omega, by omega, by omega⟩
          · rw [if_neg hd, if_pos (by omega)]
            exact ⟨by omega, by omega, by omega⟩
        obtain ⟨z1, z2⟩ := hz _ ho
        refine ⟨by simpa using h0, ?_, z2⟩
        have hc := Cd.takeU_canon (l := l.drop s.1) (n := (Cd.takeU (l.drop s.1)).1) (k := (Cd.takeU (l.drop s.1)).2.1) (by rw [show (0 : Nat) = (Cd.takeU (l.drop s.1)).2.2 by omega])
        rw [List.drop_drop] at hc
        unfold putI
        simp only
        rw [z1]
        exact hc
  whole l n a x ha h := by
    simp only [rdI]
    unfold putI at h ⊢
    rw [h, Cd.takeU_putU _ x (Cd.zig_lt a ha.1 ha.2), Cd.unzig_zig]
    simp
/-- an instruction -/
def rdOp (l : Dat) (s : RS) : Op2 × RS :=
  if operandB ((rdU l 1099511627776 s).1 : Int) = true then (⟨((rdU l 1099511627776 s).1 : Int), (rdI l (rdU l 1099511627776 s).2).1⟩, (rdI l (rdU l 1099511627776 s).2).2)
  else (⟨((rdU l 1099511627776 s).1 : Int), 0⟩, (rdU l 1099511627776 s).2)
theorem rdOp_rd : Rd rdOp putOp OpOk := by
  have hU := rdU_rd 1099511627776 (by decide)
  have hI := rdI_rd
  refine ⟨fun l s h => ?_, fun l s => ?_, fun l s h => ?_, fun l s h => ?_, fun l s hl h => ?_, fun l n a x ha h => ?_⟩
  · unfold rdOp
    have h1 := hU.stuck l s h
    split
    · show (rdI l (rdU l 1099511627776 s).2).2 = s
      rw [show (rdU l 1099511627776 s).2 = s from h1]
      exact hI.stuck l s h
    · exact h1
  · unfold rdOp
    have h1 := hU.ge l s
    split
    · exact Nat.le_trans h1 (hI.ge l _)
    · exact h1
  · unfold rdOp
    have h1 := hU.le l s h
    split
    · exact hI.le l _ h1
    · exact h1
  · unfold rdOp
    have h1 := hU.small l s h
    split
    · exact hI.small l _ h1
    · exact h1
  · unfold rdOp at h ⊢
    split at h
    · rename_i ho
      rw [if_pos ho]
      have hle := hU.le l s hl
      obtain ⟨g1, g2, g3⟩ := hI.sound l _ hle h
      obtain ⟨k1, k2, k3⟩ := hU.sound l s hl g1
      refine ⟨k1, ?_, ⟨Int.natCast_nonneg _, by simp only at k3 ⊢; omega, fun hn => ?_, g3⟩⟩
      · unfold putOp
        simp only [Int.toNat_natCast]
        rw [if_pos ho, List.append_assoc]
        rw [← g2]
        exact k2
      · simp only at hn; rw [ho] at hn; cases hn
    · rename_i ho
      rw [if_neg ho]
      obtain ⟨k1, k2, k3⟩ := hU.sound l s hl h
      refine ⟨k1, ?_, ⟨Int.natCast_nonneg _, by simp only at k3 ⊢; omega, fun _ => rfl, by unfold I64; simp only; omega⟩⟩
      unfold putOp
      simp only [Int.toNat_natCast]
      rw [if_neg ho, List.append_nil]
      exact k2
  · obtain ⟨c, b⟩ := a
    obtain ⟨c0, c1, hno, ha'⟩ := ha
    simp only at c0 c1 hno ha'
    obtain ⟨c, rfl⟩ := Int.eq_ofNat_of_zero_le c0
    unfold putOp at h ⊢
    simp only [Int.toNat_natCast] at h ⊢
    unfold rdOp
    have hu : rdU l 1099511627776 (n, 0) = (c, (n + (Cd.putU c).length, 0)) := hU.whole l n c ((if operandB ((c : Nat) : Int) = true then putI b else []) ++ x) (by omega) (by rw [h, List.append_assoc])
    rw [hu]
    simp only
    by_cases ho : operandB ((c : Nat) : Int) = true
    · rw [if_pos ho, if_pos ho]
      rw [if_pos ho, List.append_assoc] at h
      have hi := hI.whole l (n + (Cd.putU c).length) b x ha' (drop_next h)
      rw [hi, List.length_append]
      simp only [Prod.mk.injEq, and_true, true_and]
      omega
    · rw [if_neg ho, if_neg ho, hno (by simpa using ho)]
      simp
/-- so many, one behind the other: to the end; or as long as all is well -/
def goA {α : Type} (P : Dat → RS → α × RS) (l : Dat) : Nat → List α → RS → List α × RS
  | 0, L, s => (L, s)
  | k + 1, L, s => goA P l k (L ++ [(P l s).1]) (P l s).2
def goS {α : Type} (P : Dat → RS → α × RS) (l : Dat) : Nat → List α → RS → List α × RS
  | 0, L, s => (L, s)
  | k + 1, L, s => if s.2 ≠ 0 then (L, s) else goS P l k (L ++ [(P l s).1]) (P l s).2
section
variable {α : Type} {P : Dat → RS → α × RS} {put : α → Dat} {ok : α → Prop}
theorem goS_stuck (l : Dat) (k : Nat) (L : List α) (s : RS) (h : s.2 ≠ 0) : goS P l k L s = (L, s) := by
  cases k with
  | zero => rfl
  | succ k => rw [goS, if_pos h]
theorem goS_ge (h : Rd P put ok) (l : Dat) : ∀ (k : Nat) (L : List α) (s : RS), s.1 ≤ (goS P l k L s).2.1
  | 0, L, s => Nat.le_refl _
  | k + 1, L, s => by
    rw [goS]
    split
    · exact Nat.le_refl _
    · exact Nat.le_trans (h.ge l s) (goS_ge h l k _ _)
theorem goS_le (h : Rd P put ok) (l : Dat) : ∀ (k : Nat) (L : List α) (s : RS), s.1 ≤ l.length → (goS P l k L s).2.1 ≤ l.length
  | 0, L, s, hs => hs
  | k + 1, L, s, hs => by
    rw [goS]
    split
    · exact hs
    · exact goS_le h l k _ _ (h.le l s hs)
theorem goS_small (h : Rd P put ok) (l : Dat) : ∀ (k : Nat) (L : List α) (s : RS), s.2 ≤ 3 → (goS P l k L s).2.2 ≤ 3
  | 0, L, s, hs => hs
  | k + 1, L, s, hs => by
    rw [goS]
    split
    · exact hs
    · exact goS_small h l k _ _ (h.small l s hs)
theorem goS_len (l : Dat) : ∀ (k : Nat) (L : List α) (s : RS), (goS P l k L s).1.length ≤ L.length + k
  | 0, L, s => Nat.le_refl _
  | k + 1, L, s => by
    rw [goS]
    split
    · simp only; omega
    · have := goS_len l k (L ++ [(P l s).1]) (P l s).2
      rw [List.length_append, List.length_singleton] at this
      omega
theorem goS_sound (h : Rd P put ok) (l : Dat) : ∀ (k : Nat) (L : List α) (s : RS), s.1 ≤ l.length → (goS P l k L s).2.2 = 0 → s.2 = 0 ∧ ∃ M, (goS P l k L s).1 = L ++ M ∧ M.length = k ∧ l.drop s.1 = M.flatMap put ++ l.drop (goS P l k L s).2.1 ∧ ∀ m ∈ M, ok m
  | 0, L, s, _, hb => ⟨hb, [], by simp [goS], rfl, by simp [goS], fun m hm => by cases hm⟩
  | k + 1, L, s, hs, hb => by
    rw [goS] at hb ⊢
    split at hb
    · rename_i h0; exact absurd hb h0
    · rename_i h0
      rw [if_neg h0]
      obtain ⟨h1, M, h2, h3, h4, h5⟩ := goS_sound h l k _ _ (h.le l s hs) hb
      obtain ⟨g1, g2, g3⟩ := h.sound l s hs h1
      refine ⟨g1, (P l s).1 :: M, by rw [h2]; simp, by simp [h3], ?_, fun m hm => ?_⟩
      · rw [List.flatMap_cons, List.append_assoc, ← h4]
        exact g2
      · rcases List.mem_cons.1 hm with rfl | hm
        · exact g3
        · exact h5 m hm
theorem goS_whole (h : Rd P put ok) (l : Dat) : ∀ (M L : List α) (n : Nat) (x : Dat), (∀ m ∈ M, ok m) → l.drop n = M.flatMap put ++ x → goS P l M.length L (n, 0) = (L ++ M, (n + (M.flatMap put).length, 0))
  | [], L, n, x, _, _ => by simp [goS]
  | a :: M, L, n, x, hm, hx => by
    rw [List.flatMap_cons, List.append_assoc] at hx
    rw [List.length_cons, goS, if_neg (by simp), h.whole l n a _ (hm a (List.mem_cons_self ..)) hx]
    simp only
    rw [goS_whole h l M (L ++ [a]) _ x (fun m hh => hm m (List.mem_cons_of_mem _ hh)) (drop_next hx)]
    simp only [List.append_assoc, List.singleton_append, List.flatMap_cons, List.length_append, Prod.mk.injEq, true_and, and_true]
    omega
/-- one who goes on behind an error comes to the same place; where nothing is wrong, to the same list -/
structure Alike (PA PS : Dat → RS → α × RS) : Prop where
  state : ∀ l s, (PA l s).2 = (PS l s).2
  value : ∀ l s, (PS l s).2.2 = 0 → (PA l s).1 = (PS l s).1
theorem goA_stuck {PA : Dat → RS → α × RS} (hp : ∀ l s, s.2 ≠ 0 → (PA l s).2 = s) (l : Dat) : ∀ (k : Nat) (L : List α) (s : RS), s.2 ≠ 0 → (goA PA l k L s).2 = s
  | 0, L, s, _ => rfl
  | k + 1, L, s, h => by
    rw [goA, hp l s h]
    exact goA_stuck hp l k _ _ h
theorem goA_alike {PA : Dat → RS → α × RS} (h : Rd P put ok) (ha : Alike PA P) (l : Dat) : ∀ (k : Nat) (L : List α) (s : RS), (goA PA l k L s).2 = (goS P l k L s).2 ∧ ((goS P l k L s).2.2 = 0 → (goA PA l k L s).1 = (goS P l k L s).1)
  | 0, L, s => ⟨rfl, fun _ => rfl⟩
  | k + 1, L, s => by
    by_cases h0 : s.2 ≠ 0
    · rw [goS_stuck l _ L s h0, goA_stuck (fun l s hs => by rw [ha.state, h.stuck l s hs]) l _ L s h0]
      exact ⟨rfl, fun hz => absurd hz h0⟩
    · rw [goA, goS, if_neg h0, ha.state]
      by_cases h1 : (P l s).2.2 = 0
      · rw [ha.value l s h1]
        exact goA_alike h ha l k _ _
      · rw [goS_stuck l _ _ _ h1, goA_stuck (fun l s hs => by rw [ha.state, h.stuck l s hs]) l _ _ _ h1]
        exact ⟨rfl, fun hz => absurd hz h1⟩
end
end Co
end Go.Proofs.Ytfkfckohajpcfaa

/-
  Plain mathematics of P13.5, P13.6: what bytes say as a program; each program has one text. No program is named here.
-/
namespace Go.Proofs.Ytfkfckohajpcfaa
set_option linter.unusedVariables false
set_option linter.unusedSimpArgs false
namespace Co
abbrev U40 : Nat := 1099511627776
/-- the head of a function: its Kind, its Name, how many instructions -/
def fK (l : Dat) (s : RS) : Nat × RS := rdU l 1099511627776 s
def fN (l : Dat) (s : RS) : Nat × RS := rdU l 1099511627776 (fK l s).2
def fL (l : Dat) (s : RS) : Nat × RS := rdU l 128 (fN l s).2
def fO (l : Dat) (s : RS) : List Op2 × RS := goS rdOp l (fL l s).1 [] (fL l s).2
def fOA (l : Dat) (s : RS) : List Op2 × RS := goA rdOp l (fL l s).1 [] (fL l s).2
/-- a function -/
def rdFn (l : Dat) (s : RS) : Fn × RS := (⟨((fK l s).1 : Int), ((fN l s).1 : Int), (fO l s).1⟩, (fO l s).2)
def rdFnA (l : Dat) (s : RS) : Fn × RS := (⟨((fK l s).1 : Int), ((fN l s).1 : Int), (fOA l s).1⟩, (fOA l s).2)
theorem alike_self {α : Type} (P : Dat → RS → α × RS) : Alike P P := ⟨fun _ _ => rfl, fun _ _ _ => rfl⟩
theorem rdFn_rd : Rd rdFn putFn FnOk := by
  have hU := rdU_rd 1099511627776 (by decide)
  have hL := rdU_rd 128 (by decide)
  have hO := rdOp_rd
  refine ⟨fun l s h => ?_, fun l s => ?_, fun l s h => ?_, fun l s h => ?_, fun l s hl h => ?_, fun l n a x ha h => ?_⟩
  · have h1 : (fK l s).2 = s := hU.stuck l s h
    have h2 : (fN l s).2 = s := by unfold fN; rw [h1]; exact hU.stuck l s h
    have h3 : (fL l s).2 = s := by unfold fL; rw [h2]; exact hL.stuck l s h
    show (fO l s).2 = s
    unfold fO
    rw [h3, goS_stuck l _ _ s h]
  · exact Nat.le_trans (hU.ge l s) (Nat.le_trans (hU.ge l (fK l s).2) (Nat.le_trans (hL.ge l (fN l s).2) (goS_ge hO l _ _ _)))
  · exact goS_le hO l _ _ _ (hL.le l _ (hU.le l _ (hU.le l s h)))
  · exact goS_small hO l _ _ _ (hL.small l _ (hU.small l _ (hU.small l s h)))
  · have l1 := hU.le l s hl
    have l2 := hU.le l _ l1
    have l3 := hL.le l _ l2
    obtain ⟨g1, M, g2, g3, g4, g5⟩ := goS_sound hO l (fL l s).1 [] (fL l s).2 l3 h
    obtain ⟨k1, k2, k3⟩ := hL.sound l (fN l s).2 l2 g1
    obtain ⟨m1, m2, m3⟩ := hU.sound l (fK l s).2 l1 k1
    obtain ⟨n1, n2, n3⟩ := hU.sound l s hl m1
    have e2 : (fO l s).1 = M := by show (goS rdOp l (fL l s).1 [] (fL l s).2).1 = M; rw [g2, List.nil_append]
    refine ⟨n1, ?_, ?_⟩
    · unfold putFn headF rdFn
      simp only [Int.toNat_natCast, List.append_assoc]
      rw [e2, g3]
      rw [show M.flatMap putOp ++ l.drop (fO l s).2.1 = l.drop (fL l s).2.1 from g4.symm]
      rw [show Cd.putU (fL l s).1 ++ l.drop (fL l s).2.1 = l.drop (fN l s).2.1 from k2.symm]
      rw [show Cd.putU (fN l s).1 ++ l.drop (fN l s).2.1 = l.drop (fK l s).2.1 from m2.symm]
      exact n2
    · unfold rdFn
      rw [e2]
      have a1 : (fK l s).1 ≤ 1099511627776 := n3
      have a2 : (fN l s).1 ≤ 1099511627776 := m3
      have a3 : (fL l s).1 ≤ 128 := k3
      exact ⟨Int.natCast_nonneg _, by show ((fK l s).1 : Int) ≤ _; omega, Int.natCast_nonneg _, by show ((fN l s).1 : Int) ≤ _; omega, by show M.length ≤ 128; omega, g5⟩
  · obtain ⟨kind, name, M⟩ := a
    obtain ⟨k0, k1, n0, n1, ml, mo⟩ := ha
    simp only at k0 k1 n0 n1 ml mo
    obtain ⟨kind, rfl⟩ := Int.eq_ofNat_of_zero_le k0
    obtain ⟨name, rfl⟩ := Int.eq_ofNat_of_zero_le n0
    unfold putFn headF at h ⊢
    simp only [Int.toNat_natCast, List.append_assoc] at h ⊢
    have q1 : fK l (n, 0) = (kind, (n + (Cd.putU kind).length, 0)) := hU.whole l n kind _ (by omega) h
    have d1 := drop_next h
    have q2 : fN l (n, 0) = (name, (n + (Cd.putU kind).length + (Cd.putU name).length, 0)) := by unfold fN; rw [q1]; exact hU.whole l _ name _ (by omega) d1
    have d2 := drop_next d1
    have q3 : fL l (n, 0) = (M.length, (n + (Cd.putU kind).length + (Cd.putU name).length + (Cd.putU M.length).length, 0)) := by unfold fL; rw [q2]; exact hL.whole l _ M.length _ (by omega) d2
    have d3 := drop_next d2
    have q4 : fO l (n, 0) = (M, (n + (Cd.putU kind).length + (Cd.putU name).length + (Cd.putU M.length).length + (M.flatMap putOp).length, 0)) := by
      unfold fO; rw [q3]
      have := goS_whole hO l M [] _ x mo d3
      rw [List.nil_append] at this
      exact this
    unfold rdFn
    rw [q1, q2, q4]
    simp only [List.length_append, Prod.mk.injEq, and_true, true_and]
    omega
theorem rdFn_alike : Alike rdFnA rdFn := by
  have hg := fun l s => goA_alike rdOp_rd (alike_self rdOp) l (fL l s).1 [] (fL l s).2
  refine ⟨fun l s => (hg l s).1, fun l s h => ?_⟩
  unfold rdFnA rdFn
  simp only
  have : (fOA l s).1 = (fO l s).1 := (hg l s).2 h
  rw [this]
/-- numbers, one behind the other -/
def rdNs (l : Dat) : Nat → List Int → RS → List Int × RS := goS (fun l s => (((rdU l 1099511627776 s).1 : Int), (rdU l 1099511627776 s).2)) l
def rdN1 (l : Dat) (s : RS) : Int × RS := (((rdU l 1099511627776 s).1 : Int), (rdU l 1099511627776 s).2)
theorem rdN1_rd : Rd rdN1 putN (fun d => 0 ≤ d ∧ d ≤ 1099511627776) := by
  have hU := rdU_rd 1099511627776 (by decide)
  refine ⟨fun l s h => hU.stuck l s h, fun l s => hU.ge l s, fun l s h => hU.le l s h, fun l s h => hU.small l s h, fun l s hl h => ?_, fun l n a x ha h => ?_⟩
  · obtain ⟨h1, h2, h3⟩ := hU.sound l s hl h
    refine ⟨h1, h2, Int.natCast_nonneg _, ?_⟩
    show ((rdU l 1099511627776 s).1 : Int) ≤ _
    change (rdU l 1099511627776 s).1 ≤ 1099511627776 at h3
    omega
  · obtain ⟨a0, a1⟩ := ha
    obtain ⟨a, rfl⟩ := Int.eq_ofNat_of_zero_le a0
    have : rdU l 1099511627776 (n, 0) = (a, (n + (Cd.putU a).length, 0)) := hU.whole l n a x (by omega) h
    unfold rdN1
    rw [this]
    rfl
/-- the numbers of options, each -/
def o0 (l : Dat) (s : RS) : Nat × RS := rdU l 1099511627776 s
def o1 (l : Dat) (s : RS) : Nat × RS := rdU l 1099511627776 (o0 l s).2
def o2 (l : Dat) (s : RS) : Nat × RS := rdU l 1099511627776 (o1 l s).2
def o3 (l : Dat) (s : RS) : Nat × RS := rdU l 1099511627776 (o2 l s).2
def o4 (l : Dat) (s : RS) : Nat × RS := rdU l 1099511627776 (o3 l s).2
def o5 (l : Dat) (s : RS) : Nat × RS := rdU l 1099511627776 (o4 l s).2
def o6 (l : Dat) (s : RS) : Nat × RS := rdU l 1099511627776 (o5 l s).2
def o7 (l : Dat) (s : RS) : Nat × RS := rdU l 1099511627776 (o6 l s).2
def o8 (l : Dat) (s : RS) : Nat × RS := rdU l 1099511627776 (o7 l s).2
def o9 (l : Dat) (s : RS) : Nat × RS := rdU l 1099511627776 (o8 l s).2
def oN (l : Dat) (s : RS) : Int × RS := rdI l (o9 l s).2
def rdOpt (l : Dat) (s : RS) : Opt × RS :=
  (⟨((o0 l s).1 : Int), ((o1 l s).1 : Int), ((o2 l s).1 : Int), ((o3 l s).1 : Int), ((o4 l s).1 : Int), ((o5 l s).1 : Int), ((o6 l s).1 : Int), ((o7 l s).1 : Int), ((o8 l s).1 : Int), ((o9 l s).1 : Int), (oN l s).1⟩, (oN l s).2)
theorem rdOpt_2 (l : Dat) (s : RS) : (rdOpt l s).2 = (oN l s).2 := by simp only [rdOpt]
theorem o0_eq (l : Dat) (s : RS) : o0 l s = rdU l 1099511627776 s := by rw [o0]
theorem o1_eq (l : Dat) (s : RS) : o1 l s = rdU l 1099511627776 (o0 l s).2 := by rw [o1]
theorem o2_eq (l : Dat) (s : RS) : o2 l s = rdU l 1099511627776 (o1 l s).2 := by rw [o2]
theorem o3_eq (l : Dat) (s : RS) : o3 l s = rdU l 1099511627776 (o2 l s).2 := by rw [o3]
theorem o4_eq (l : Dat) (s : RS) : o4 l s = rdU l 1099511627776 (o3 l s).2 := by rw [o4]
theorem o5_eq (l : Dat) (s : RS) : o5 l s = rdU l 1099511627776 (o4 l s).2 := by rw [o5]
theorem o6_eq (l : Dat) (s : RS) : o6 l s = rdU l 1099511627776 (o5 l s).2 := by rw [o6]
theorem o7_eq (l : Dat) (s : RS) : o7 l s = rdU l 1099511627776 (o6 l s).2 := by rw [o7]
theorem o8_eq (l : Dat) (s : RS) : o8 l s = rdU l 1099511627776 (o7 l s).2 := by rw [o8]
theorem o9_eq (l : Dat) (s : RS) : o9 l s = rdU l 1099511627776 (o8 l s).2 := by rw [o9]
theorem oN_eq (l : Dat) (s : RS) : oN l s = rdI l (o9 l s).2 := by rw [oN]
theorem rdOpt_rd : Rd rdOpt putOpt OptOk := by
  have hU := rdU_rd 1099511627776 (by decide)
  have hI := rdI_rd
  refine ⟨fun l s h => ?_, fun l s => ?_, fun l s h => ?_, fun l s h => ?_, fun l s hl h => ?_, fun l n a x ha h => ?_⟩
  · have hs : ∀ s : RS, s.2 ≠ 0 → (rdU l 1099511627776 s).2 = s := fun s h => hU.stuck l s h
    have e0 : (o0 l s).2 = s := by rw [o0_eq]; exact hs s h
    have e1 : (o1 l s).2 = s := by rw [o1_eq, e0]; exact hs s h
    have e2 : (o2 l s).2 = s := by rw [o2_eq, e1]; exact hs s h
    have e3 : (o3 l s).2 = s := by rw [o3_eq, e2]; exact hs s h
    have e4 : (o4 l s).2 = s := by rw [o4_eq, e3]; exact hs s h
    have e5 : (o5 l s).2 = s := by rw [o5_eq, e4]; exact hs s h
    have e6 : (o6 l s).2 = s := by rw [o6_eq, e5]; exact hs s h
    have e7 : (o7 l s).2 = s := by rw [o7_eq, e6]; exact hs s h
    have e8 : (o8 l s).2 = s := by rw [o8_eq, e7]; exact hs s h
    have e9 : (o9 l s).2 = s := by rw [o9_eq, e8]; exact hs s h
    rw [rdOpt_2, oN_eq, e9]
    exact hI.stuck l s h
  · have hs : ∀ s : RS, s.1 ≤ (rdU l 1099511627776 s).2.1 := fun s => hU.ge l s
    have l0 : s.1 ≤ (o0 l s).2.1 := by rw [o0_eq]; exact hs s
    have l1 : (o0 l s).2.1 ≤ (o1 l s).2.1 := by rw [o1_eq]; exact hs _
    have l2 : (o1 l s).2.1 ≤ (o2 l s).2.1 := by rw [o2_eq]; exact hs _
    have l3 : (o2 l s).2.1 ≤ (o3 l s).2.1 := by rw [o3_eq]; exact hs _
    have l4 : (o3 l s).2.1 ≤ (o4 l s).2.1 := by rw [o4_eq]; exact hs _
    have l5 : (o4 l s).2.1 ≤ (o5 l s).2.1 := by rw [o5_eq]; exact hs _
    have l6 : (o5 l s).2.1 ≤ (o6 l s).2.1 := by rw [o6_eq]; exact hs _
    have l7 : (o6 l s).2.1 ≤ (o7 l s).2.1 := by rw [o7_eq]; exact hs _
    have l8 : (o7 l s).2.1 ≤ (o8 l s).2.1 := by rw [o8_eq]; exact hs _
    have l9 : (o8 l s).2.1 ≤ (o9 l s).2.1 := by rw [o9_eq]; exact hs _
    have lN : (o9 l s).2.1 ≤ (oN l s).2.1 := by rw [oN_eq]; exact hI.ge l _
    rw [rdOpt_2]
    omega
  · have hs : ∀ s : RS, s.1 ≤ l.length → (rdU l 1099511627776 s).2.1 ≤ l.length := fun s h => hU.le l s h
    have l0 : (o0 l s).2.1 ≤ l.length := by rw [o0_eq]; exact hs s h
    have l1 : (o1 l s).2.1 ≤ l.length := by rw [o1_eq]; exact hs _ l0
    have l2 : (o2 l s).2.1 ≤ l.length := by rw [o2_eq]; exact hs _ l1
    have l3 : (o3 l s).2.1 ≤ l.length := by rw [o3_eq]; exact hs _ l2
    have l4 : (o4 l s).2.1 ≤ l.length := by rw [o4_eq]; exact hs _ l3
    have l5 : (o5 l s).2.1 ≤ l.length := by rw [o5_eq]; exact hs _ l4
    have l6 : (o6 l s).2.1 ≤ l.length := by rw [o6_eq]; exact hs _ l5
    have l7 : (o7 l s).2.1 ≤ l.length := by rw [o7_eq]; exact hs _ l6
    have l8 : (o8 l s).2.1 ≤ l.length := by rw [o8_eq]; exact hs _ l7
    have l9 : (o9 l s).2.1 ≤ l.length := by rw [o9_eq]; exact hs _ l8
    rw [rdOpt_2, oN_eq]
    exact hI.le l _ l9
  · have hs : ∀ s : RS, s.2 ≤ 3 → (rdU l 1099511627776 s).2.2 ≤ 3 := fun s h => hU.small l s h
    have l0 : (o0 l s).2.2 ≤ 3 := by rw [o0_eq]; exact hs s h
    have l1 : (o1 l s).2.2 ≤ 3 := by rw [o1_eq]; exact hs _ l0
    have l2 : (o2 l s).2.2 ≤ 3 := by rw [o2_eq]; exact hs _ l1
    have l3 : (o3 l s).2.2 ≤ 3 := by rw [o3_eq]; exact hs _ l2
    have l4 : (o4 l s).2.2 ≤ 3 := by rw [o4_eq]; exact hs _ l3
    have l5 : (o5 l s).2.2 ≤ 3 := by rw [o5_eq]; exact hs _ l4
    have l6 : (o6 l s).2.2 ≤ 3 := by rw [o6_eq]; exact hs _ l5
    have l7 : (o7 l s).2.2 ≤ 3 := by rw [o7_eq]; exact hs _ l6
    have l8 : (o8 l s).2.2 ≤ 3 := by rw [o8_eq]; exact hs _ l7
    have l9 : (o9 l s).2.2 ≤ 3 := by rw [o9_eq]; exact hs _ l8
    rw [rdOpt_2, oN_eq]
    exact hI.small l _ l9
  · have hs : ∀ s : RS, s.1 ≤ l.length → (rdU l 1099511627776 s).2.1 ≤ l.length := fun s h => hU.le l s h
    have ho : ∀ s : RS, s.1 ≤ l.length → (rdU l 1099511627776 s).2.2 = 0 → s.2 = 0 ∧ l.drop s.1 = Cd.putU (rdU l 1099511627776 s).1 ++ l.drop (rdU l 1099511627776 s).2.1 ∧ (rdU l 1099511627776 s).1 ≤ 1099511627776 := fun s a b => hU.sound l s a b
    have l0 : (o0 l s).2.1 ≤ l.length := by rw [o0_eq]; exact hs s hl
    have l1 : (o1 l s).2.1 ≤ l.length := by rw [o1_eq]; exact hs _ l0
    have l2 : (o2 l s).2.1 ≤ l.length := by rw [o2_eq]; exact hs _ l1
    have l3 : (o3 l s).2.1 ≤ l.length := by rw [o3_eq]; exact hs _ l2
    have l4 : (o4 l s).2.1 ≤ l.length := by rw [o4_eq]; exact hs _ l3
    have l5 : (o5 l s).2.1 ≤ l.length := by rw [o5_eq]; exact hs _ l4
    have l6 : (o6 l s).2.1 ≤ l.length := by rw [o6_eq]; exact hs _ l5
    have l7 : (o7 l s).2.1 ≤ l.length := by rw [o7_eq]; exact hs _ l6
    have l8 : (o8 l s).2.1 ≤ l.length := by rw [o8_eq]; exact hs _ l7
    have l9 : (o9 l s).2.1 ≤ l.length := by rw [o9_eq]; exact hs _ l8
    rw [rdOpt_2, oN_eq] at h
    obtain ⟨gN, pN, kN⟩ := hI.sound l (o9 l s).2 l9 h
    rw [← oN_eq] at pN kN
    rw [o9_eq] at gN
    obtain ⟨g9, p9, k9⟩ := ho (o8 l s).2 l8 gN
    rw [← o9_eq] at p9 k9
    rw [o8_eq] at g9
    obtain ⟨g8, p8, k8⟩ := ho (o7 l s).2 l7 g9
    rw [← o8_eq] at p8 k8
    rw [o7_eq] at g8
    obtain ⟨g7, p7, k7⟩ := ho (o6 l s).2 l6 g8
    rw [← o7_eq] at p7 k7
    rw [o6_eq] at g7
    obtain ⟨g6, p6, k6⟩ := ho (o5 l s).2 l5 g7
    rw [← o6_eq] at p6 k6
    rw [o5_eq] at g6
    obtain ⟨g5, p5, k5⟩ := ho (o4 l s).2 l4 g6
    rw [← o5_eq] at p5 k5
    rw [o4_eq] at g5
    obtain ⟨g4, p4, k4⟩ := ho (o3 l s).2 l3 g5
    rw [← o4_eq] at p4 k4
    rw [o3_eq] at g4
    obtain ⟨g3, p3, k3⟩ := ho (o2 l s).2 l2 g4
    rw [← o3_eq] at p3 k3
    rw [o2_eq] at g3
    obtain ⟨g2, p2, k2⟩ := ho (o1 l s).2 l1 g3
    rw [← o2_eq] at p2 k2
    rw [o1_eq] at g2
    obtain ⟨g1, p1, k1⟩ := ho (o0 l s).2 l0 g2
    rw [← o1_eq] at p1 k1
    rw [o0_eq] at g1
    obtain ⟨g0, p0, k0⟩ := ho s hl g1
    rw [← o0_eq] at p0 k0
    rw [rdOpt_2]
    refine ⟨g0, ?_, ?_⟩
    · simp only [putOpt, nums, putN, rdOpt, List.flatMap_cons, List.flatMap_nil, Int.toNat_natCast, List.append_assoc, List.append_nil, List.nil_append]
      rw [← pN, ← p9, ← p8, ← p7, ← p6, ← p5, ← p4, ← p3, ← p2, ← p1]
      exact p0
    · clear pN p9 p8 p7 p6 p5 p4 p3 p2 p1 p0
      simp only [rdOpt]
      generalize (o0 l s).1 = x0 at *
      generalize (o1 l s).1 = x1 at *
      generalize (o2 l s).1 = x2 at *
      generalize (o3 l s).1 = x3 at *
      generalize (o4 l s).1 = x4 at *
      generalize (o5 l s).1 = x5 at *
      generalize (o6 l s).1 = x6 at *
      generalize (o7 l s).1 = x7 at *
      generalize (o8 l s).1 = x8 at *
      generalize (o9 l s).1 = x9 at *
      generalize (oN l s).1 = xN at *
      refine ⟨fun d hd => ?_, kN⟩
      unfold nums at hd
      simp only [List.mem_cons, List.not_mem_nil, or_false] at hd
      rcases hd with rfl | rfl | rfl | rfl | rfl | rfl | rfl | rfl | rfl | rfl <;> omega
  · obtain ⟨he, hn⟩ := ha
    unfold putOpt at h ⊢
    obtain ⟨q, t1, t2, t3, t4, t5, t6, t7, t8, t9, t10⟩ := a
    unfold nums at he h ⊢
    simp only [List.mem_cons, List.not_mem_nil, or_false, forall_eq_or_imp, forall_eq] at he
    simp only at hn
    obtain ⟨⟨z0, y0⟩, ⟨z1, y1⟩, ⟨z2, y2⟩, ⟨z3, y3⟩, ⟨z4, y4⟩, ⟨z5, y5⟩, ⟨z6, y6⟩, ⟨z7, y7⟩, ⟨z8, y8⟩, z9, y9⟩ := he
    obtain ⟨q, rfl⟩ := Int.eq_ofNat_of_zero_le z0
    obtain ⟨t1, rfl⟩ := Int.eq_ofNat_of_zero_le z1
    obtain ⟨t2, rfl⟩ := Int.eq_ofNat_of_zero_le z2
    obtain ⟨t3, rfl⟩ := Int.eq_ofNat_of_zero_le z3
    obtain ⟨t4, rfl⟩ := Int.eq_ofNat_of_zero_le z4
    obtain ⟨t5, rfl⟩ := Int.eq_ofNat_of_zero_le z5
    obtain ⟨t6, rfl⟩ := Int.eq_ofNat_of_zero_le z6
    obtain ⟨t7, rfl⟩ := Int.eq_ofNat_of_zero_le z7
    obtain ⟨t8, rfl⟩ := Int.eq_ofNat_of_zero_le z8
    obtain ⟨t9, rfl⟩ := Int.eq_ofNat_of_zero_le z9
    unfold putN at h ⊢
    simp only [List.flatMap_cons, List.flatMap_nil, Int.toNat_natCast, List.append_assoc, List.append_nil, List.nil_append] at h ⊢
    have hw : ∀ (n a : Nat) (x : Dat), a ≤ 1099511627776 → l.drop n = Cd.putU a ++ x → rdU l 1099511627776 (n, 0) = (a, (n + (Cd.putU a).length, 0)) := fun n a x ha h => hU.whole l n a x ha h
    have d0 := drop_next h
    have d1 := drop_next d0
    have d2 := drop_next d1
    have d3 := drop_next d2
    have d4 := drop_next d3
    have d5 := drop_next d4
    have d6 := drop_next d5
    have d7 := drop_next d6
    have d8 := drop_next d7
    have d9 := drop_next d8
    have q0 : o0 l (n, 0) = (q, (n + (Cd.putU q).length, 0)) := by rw [o0_eq]; exact hw n q _ (by omega) h
    have q1 : o1 l (n, 0) = (t1, (n + (Cd.putU q).length + (Cd.putU t1).length, 0)) := by rw [o1_eq, q0]; exact hw _ t1 _ (by omega) d0
    have q2 : o2 l (n, 0) = (t2, (n + (Cd.putU q).length + (Cd.putU t1).length + (Cd.putU t2).length, 0)) := by rw [o2_eq, q1]; exact hw _ t2 _ (by omega) d1
    have q3 : o3 l (n, 0) = (t3, (n + (Cd.putU q).length + (Cd.putU t1).length + (Cd.putU t2).length + (Cd.putU t3).length, 0)) := by rw [o3_eq, q2]; exact hw _ t3 _ (by omega) d2
    have q4 : o4 l (n, 0) = (t4, (n + (Cd.putU q).length + (Cd.putU t1).length + (Cd.putU t2).length + (Cd.putU t3).length + (Cd.putU t4).length, 0)) := by rw [o4_eq, q3]; exact hw _ t4 _ (by omega) d3
    have q5 : o5 l (n, 0) = (t5, (n + (Cd.putU q).length + (Cd.putU t1).length + (Cd.putU t2).length + (Cd.putU t3).length + (Cd.putU t4).length + (Cd.putU t5).length, 0)) := by rw [o5_eq, q4]; exact hw _ t5 _ (by omega) d4
    have q6 : o6 l (n, 0) = (t6, (n + (Cd.putU q).length + (Cd.putU t1).length + (Cd.putU t2).length + (Cd.putU t3).length + (Cd.putU t4).length + (Cd.putU t5).length + (Cd.putU t6).length, 0)) := by rw [o6_eq, q5]; exact hw _ t6 _ (by omega) d5
    have q7 : o7 l (n, 0) = (t7, (n + (Cd.putU q).length + (Cd.putU t1).length + (Cd.putU t2).length + (Cd.putU t3).length + (Cd.putU t4).length + (Cd.putU t5).length + (Cd.putU t6).length + (Cd.putU t7).length, 0)) := by rw [o7_eq, q6]; exact hw _ t7 _ (by omega) d6
    have q8 : o8 l (n, 0) = (t8, (n + (Cd.putU q).length + (Cd.putU t1).length + (Cd.putU t2).length + (Cd.putU t3).length + (Cd.putU t4).length + (Cd.putU t5).length + (Cd.putU t6).length + (Cd.putU t7).length + (Cd.putU t8).length, 0)) := by rw [o8_eq, q7]; exact hw _ t8 _ (by omega) d7
    have q9 : o9 l (n, 0) = (t9, (n + (Cd.putU q).length + (Cd.putU t1).length + (Cd.putU t2).length + (Cd.putU t3).length + (Cd.putU t4).length + (Cd.putU t5).length + (Cd.putU t6).length + (Cd.putU t7).length + (Cd.putU t8).length + (Cd.putU t9).length, 0)) := by rw [o9_eq, q8]; exact hw _ t9 _ (by omega) d8
    have qN : oN l (n, 0) = (t10, (n + (Cd.putU q).length + (Cd.putU t1).length + (Cd.putU t2).length + (Cd.putU t3).length + (Cd.putU t4).length + (Cd.putU t5).length + (Cd.putU t6).length + (Cd.putU t7).length + (Cd.putU t8).length + (Cd.putU t9).length + (putI t10).length, 0)) := by rw [oN_eq, q9]; exact hI.whole l _ t10 x hn d9
    simp only [rdOpt]
    rw [q0, q1, q2, q3, q4, q5, q6, q7, q8, q9, qN]
    simp only [List.length_append, Prod.mk.injEq, and_true, true_and]
    omega
/-- a whole program's parts -/
def pF (l : Dat) : Nat × RS := rdU l 16 (0, 0)
def pFs (l : Dat) : List Fn × RS := goS rdFn l (pF l).1 [] (pF l).2
def pO (l : Dat) : Nat × RS := rdU l 8 (pFs l).2
def pOs (l : Dat) : List Opt × RS := goS rdOpt l (pO l).1 [] (pO l).2
def rdP (l : Dat) : Prog := ⟨(pFs l).1, (pOs l).1⟩
/-- where it ends, what was wrong -/
def rdZ (l : Dat) : RS := (pOs l).2
def empty : Prog := ⟨[], []⟩
/-- what bytes say, behind the reading -/
def decB (l : Dat) (p : Prog) (z : RS) : Prog × Nat × Nat :=
  if z.2 ≠ 0 then (empty, z.2, z.1) else if z.1 < l.length then (empty, 3, z.1) else if (check p).1 ≠ 0 then (empty, 40, 0) else (p, 0, 0)
/-- P13.5 -/
def dec (l : Dat) : Prog × Nat × Nat := decB l (rdP l) (rdZ l)
theorem rd_sound {l : Dat} (h : (rdZ l).2 = 0) : l = loadP (rdP l) ++ l.drop (rdZ l).1 ∧ POk (rdP l) := by
  have K := rdU_rd 16 (by decide)
  have K2 := rdU_rd 8 (by decide)
  have l0 := K.le l (0, 0) (Nat.zero_le _)
  have l1 : (pFs l).2.1 ≤ l.length := goS_le rdFn_rd l (pF l).1 [] (pF l).2 l0
  have l2 := K2.le l _ l1
  obtain ⟨g1, M, g2, g3, g4, g5⟩ := goS_sound rdOpt_rd l (pO l).1 [] (pO l).2 l2 h
  obtain ⟨k1, k2, k3⟩ := K2.sound l (pFs l).2 l1 g1
  obtain ⟨a1, A, a2, a3, a4, a5⟩ := goS_sound rdFn_rd l (pF l).1 [] (pF l).2 l0 k1
  obtain ⟨n1, n2, n3⟩ := K.sound l (0, 0) (Nat.zero_le _) a1
  have e1 : (pFs l).1 = A := by show (goS rdFn l (pF l).1 [] (pF l).2).1 = A; rw [a2, List.nil_append]
  have e2 : (pOs l).1 = M := by show (goS rdOpt l (pO l).1 [] (pO l).2).1 = M; rw [g2, List.nil_append]
  refine ⟨?_, ?_⟩
  · unfold loadP rdP
    simp only [List.append_assoc]
    rw [e1, e2, a3, g3]
    rw [show M.flatMap putOpt ++ l.drop (rdZ l).1 = l.drop (pO l).2.1 from g4.symm]
    rw [show Cd.putU (pO l).1 ++ l.drop (pO l).2.1 = l.drop (pFs l).2.1 from k2.symm]
    rw [show A.flatMap putFn ++ l.drop (pFs l).2.1 = l.drop (pF l).2.1 from a4.symm]
    rw [List.drop_zero] at n2
    exact n2
  · unfold rdP
    rw [e1, e2]
    have b1 : (pF l).1 ≤ 16 := n3
    have b2 : (pO l).1 ≤ 8 := k3
    exact ⟨by show A.length ≤ 16; omega, by show M.length ≤ 8; omega, a5, g5⟩
theorem rd_whole {p : Prog} (h : POk p) (x : Dat) : rdP (loadP p ++ x) = p ∧ rdZ (loadP p ++ x) = ((loadP p).length, 0) := by
  obtain ⟨F, O⟩ := p
  obtain ⟨nf, no, fns, opts⟩ := h
  simp only at nf no fns opts
  have K := rdU_rd 16 (by decide)
  have K2 := rdU_rd 8 (by decide)
  obtain ⟨l, hl⟩ : ∃ l, l = loadP ⟨F, O⟩ ++ x := ⟨_, rfl⟩
  have h0 : l.drop 0 = Cd.putU F.length ++ (F.flatMap putFn ++ (Cd.putU O.length ++ (O.flatMap putOpt ++ x))) := by rw [hl]; unfold loadP; simp only [List.append_assoc, List.drop_zero]
  have q1 : pF l = (F.length, (0 + (Cd.putU F.length).length, 0)) := K.whole l 0 F.length _ (by omega) h0
  have d1 := drop_next h0
  have q2 : pFs l = (F, (0 + (Cd.putU F.length).length + (F.flatMap putFn).length, 0)) := by
    unfold pFs; rw [q1]
    have := goS_whole rdFn_rd l F [] _ _ fns d1
    rw [List.nil_append] at this
    exact this
  have d2 := drop_next d1
  have q3 : pO l = (O.length, (0 + (Cd.putU F.length).length + (F.flatMap putFn).length + (Cd.putU O.length).length, 0)) := by unfold pO; rw [q2]; exact K2.whole l _ O.length _ (by omega) d2
  have d3 := drop_next d2
  have q4 : pOs l = (O, (0 + (Cd.putU F.length).length + (F.flatMap putFn).length + (Cd.putU O.length).length + (O.flatMap putOpt).length, 0)) := by
    unfold pOs; rw [q3]
    have := goS_whole rdOpt_rd l O [] _ _ opts d3
    rw [List.nil_append] at this
    exact this
  rw [← hl]
  unfold rdP rdZ
  rw [q2, q4]
  refine ⟨rfl, ?_⟩
  unfold loadP
  simp only [List.length_append, Prod.mk.injEq, and_true]
  omega
theorem rdZ_le (l : Dat) : (rdZ l).1 ≤ l.length := by
  have K := rdU_rd 16 (by decide)
  have K2 := rdU_rd 8 (by decide)
  have l0 := K.le l (0, 0) (Nat.zero_le _)
  have l1 : (pFs l).2.1 ≤ l.length := goS_le rdFn_rd l (pF l).1 [] (pF l).2 l0
  have l2 := K2.le l _ l1
  exact goS_le rdOpt_rd l (pO l).1 [] (pO l).2 l2
/-- P13.6: what was written is read again -/
theorem dec_enc {p : Prog} (hI : ProgIn p) (h : (check p).1 = 0) (x : Dat) : dec (loadP p ++ x) = if x = [] then (p, 0, 0) else (empty, 3, (loadP p).length) := by
  obtain ⟨h1, h2⟩ := rd_whole (check_pok hI h) x
  unfold dec decB
  rw [h1, h2]
  simp only [ne_eq, not_true_eq_false, if_false, List.length_append]
  by_cases hx : x = []
  · subst hx
    rw [if_neg (by simp), if_neg (by rw [h]; simp), if_pos rfl]
  · have : 0 < x.length := List.length_pos_iff.2 hx
    rw [if_pos (by omega), if_neg hx]
theorem dec_ok {l : Dat} (h : (dec l).2.1 = 0) : dec l = (rdP l, 0, 0) ∧ (rdZ l).2 = 0 ∧ (rdZ l).1 = l.length ∧ (check (rdP l)).1 = 0 := by
  unfold dec decB at h ⊢
  split at h
  · rename_i h0; exact absurd h h0
  · rename_i h0
    rw [if_neg h0]
    split at h
    · cases h
    · rename_i h1
      rw [if_neg h1]
      split at h
      · cases h
      · rename_i h2
        rw [if_neg h2]
        have := rdZ_le l
        exact ⟨rfl, by omega, by omega, by omega⟩
/-- P13.6: what was read is written as the same bytes -/
theorem enc_dec {l : Dat} (h : (dec l).2.1 = 0) : encP (dec l).1 = (l, 0) := by
  obtain ⟨h1, h2, h3, h4⟩ := dec_ok h
  obtain ⟨g1, g2⟩ := rd_sound h2
  rw [h1]
  unfold encP
  rw [if_pos h4]
  rw [h3, List.drop_length, List.append_nil] at g1
  rw [← g1]
theorem loadP_pos (p : Prog) : 0 < (loadP p).length := by
  unfold loadP
  simp only [List.length_append]
  have : 0 < (Cd.putU p.funcs.length).length := by
    rw [Cd.putU]; split <;> simp
  omega
/-- no beginning of a program's bytes is a program's -/
theorem dec_cut {p : Prog} (hI : ProgIn p) (h : (check p).1 = 0) {k : Nat} (hk : k < (loadP p).length) : (dec ((loadP p).take k)).2.1 ≠ 0 ∧ (dec ((loadP p).take k)).2.2 ≤ k := by
  constructor
  · intro h0
    obtain ⟨h1, h2, h3, h4⟩ := dec_ok h0
    obtain ⟨g1, g2⟩ := rd_sound h2
    rw [h3, List.drop_length, List.append_nil] at g1
    have e : loadP p = loadP (rdP ((loadP p).take k)) ++ (loadP p).drop k := by
      rw [← g1, List.take_append_drop]
    have w1 := rd_whole g2 ((loadP p).drop k)
    rw [← e] at w1
    have w2 := rd_whole (check_pok hI h) []
    rw [List.append_nil] at w2
    have e2 := w1.2.symm.trans w2.2
    have e3 := congrArg List.length g1
    rw [List.length_take] at e3
    simp only [Prod.mk.injEq, and_true] at e2
    omega
  · have := rdZ_le ((loadP p).take k)
    rw [List.length_take] at this
    unfold dec decB
    split
    · simp only; omega
    · split
      · simp only; omega
      · split <;> exact Nat.zero_le _
/-- the program's own reading: it goes on behind an error -/
def qFs (l : Dat) : List Fn × RS := goA rdFnA l (pF l).1 [] (pF l).2
def qO (l : Dat) : Nat × RS := rdU l 8 (qFs l).2
def qOs (l : Dat) : List Opt × RS := goA rdOpt l (qO l).1 [] (qO l).2
def decA (l : Dat) : Prog × Nat × Nat := decB l ⟨(qFs l).1, (qOs l).1⟩ (qOs l).2
theorem dec_alike (l : Dat) : decA l = dec l := by
  have K2 := rdU_rd 8 (by decide)
  obtain ⟨a1, a2⟩ := goA_alike rdFn_rd rdFn_alike l (pF l).1 [] (pF l).2
  have e1 : (qFs l).2 = (pFs l).2 := a1
  have e2 : qO l = pO l := by unfold qO pO; rw [e1]
  obtain ⟨b1, b2⟩ := goA_alike rdOpt_rd (alike_self rdOpt) l (pO l).1 [] (pO l).2
  have e3 : (qOs l).2 = (pOs l).2 := by unfold qOs; rw [e2]; exact b1
  unfold decA dec rdP rdZ
  rw [e3]
  by_cases hz : (pOs l).2.2 = 0
  · have e4 : (qOs l).1 = (pOs l).1 := by unfold qOs; rw [e2]; exact b2 hz
    have hz2 : (pO l).2.2 = 0 := (goS_sound rdOpt_rd l (pO l).1 [] (pO l).2 (K2.le l _ (goS_le rdFn_rd l _ _ _ ((rdU_rd 16 (by decide)).le l _ (Nat.zero_le _)))) hz).1
    have hz3 : (pFs l).2.2 = 0 := K2.well l (pFs l).2 hz2
    have e5 : (qFs l).1 = (pFs l).1 := a2 hz3
    rw [e4, e5]
  · unfold decB
    rw [if_pos hz, if_pos hz]
/-- what came out of reading is such as comes in -/
theorem pok_in {p : Prog} (h : POk p) : ProgIn p := by
  refine ⟨fun f hf => ?_, fun o ho => ?_, by have := h.nf; omega, by have := h.no; omega⟩
  · have g := h.fns f hf
    exact ⟨⟨by have := g.k0; omega, by have := g.k1; omega⟩, ⟨by have := g.n0; omega, by have := g.n1; omega⟩, by have := g.l; omega, fun o ho => ⟨⟨by have := (g.ops o ho).c0; omega, by have := (g.ops o ho).c1; omega⟩, (g.ops o ho).a⟩⟩
  · have g := h.opts o ho
    have ge := g.each
    unfold nums at ge
    simp only [List.mem_cons, List.not_mem_nil, or_false, forall_eq_or_imp, forall_eq] at ge
    obtain ⟨⟨z0, y0⟩, ⟨z1, y1⟩, ⟨z2, y2⟩, ⟨z3, y3⟩, ⟨z4, y4⟩, ⟨z5, y5⟩, ⟨z6, y6⟩, ⟨z7, y7⟩, ⟨z8, y8⟩, z9, y9⟩ := ge
    unfold OptIn I64
    exact ⟨by omega, by omega, by omega, by omega, by omega, by omega, by omega, by omega, by omega, by omega, g.never.1, g.never.2⟩
end Co
end Go.Proofs.Ytfkfckohajpcfaa

/-
  The program's reader of numbers (code.reader): goOn, unsigned, signed.
-/
namespace Go.Proofs.Ytfkfckohajpcfaa
open Go.RowKit
set_option linter.unusedSimpArgs false
set_option linter.unusedVariables false
namespace Co
/-- the program's reader, in block t -/
def Tk (W : World) (t : Nat) (l : Dat) (s : RS) : Prop := Ob.Obj W t 69 [.string (Cd.bs l), .int .i64 (s.1 : Int), .int .i64 (s.2 : Int)]
theorem ext_drop13 (l : Dat) (k : Nat) : (Cd.bs l).extract k l.length = Cd.bs (l.drop k) := by
  have : ((Cd.bs l).extract k l.length).data.toList = l.drop k := by
    rw [Lib.extract_data]; exact List.take_of_length_le (by simp)
  rw [← this]
def goOn (s : RS) (k e : Nat) : Bool × RS := if s.2 ≠ 0 then (false, s) else if e ≠ 0 then (false, (s.1, e)) else (true, (s.1 + k, 0))

set_option maxRecDepth 100000 in
set_option maxHeartbeats 2000000 in
theorem goOn_any (t : Nat) (l : Dat) (s : RS) (k e : Nat) (E : Int) (hE : E = (e : Int)) (w : World) (h : Tk w t l s) (hs : s.1 ≤ 140737488351232) (hk : k ≤ 140737488351232) :
    Calls Try.prog 52 #[.pointer (some ⟨t, 0, none⟩), .int .i64 (k : Int), .int .i64 E] w fun r w' => r = .returned (.bool (goOn s k e).1) ∧ Tk w' t l (goOn s k e).2 ∧ Sq.Kept (fun k => k ≠ t) w w' := by
  subst hE
  obtain ⟨at', err⟩ := s
  simp only at hs
  have c0 := Ob.Obj.cell h 0
  have c1 := Ob.Obj.cell h 1
  have c2 := Ob.Obj.cell h 2
  have f1 := Ob.Obj.frozen h 1
  have f2 := Ob.Obj.frozen h 2
  have hz := Ob.Obj.lt h
  simp at c0 c1 c2
  have hwr : IntKind.i64.wrap ((at' : Int) + (k : Int)) = (at' : Int) + (k : Int) := by rw [IntKind.wrap_i64]; omega
  have H := Lib.hid h
  have HK := Lib.hid (fun (W : World) (o : Nat) (u : Value) => Sq.Kept.setCell (T := fun k => k ≠ t) W (p := ⟨t, o, none⟩) u (fun h => h rfl))
  clear h
  by_cases he : err = 0
  · subst he
    by_cases h1 : e = 0
    · subst h1
      have HG := Lib.hid (show goOn (at', 0) k 0 = (true, (at' + k, 0)) by rfl)
      go_enter Try.func52, Try.ntmps52
      go_wp2_with fail
      go_ret
      rw [HG.out]
      exact ⟨rfl, (Ob.Obj.set H.out 2 (.int .i64 0)).set 1 (.int .i64 ((at' : Int) + (k : Int))), (HK.out _ _ _).trans (HK.out _ _ _)⟩
    · have heb : (((e : Nat) : Int) != 0) = true := by simp; omega
      have HG := Lib.hid (show goOn (at', 0) k e = (false, (at', e)) by unfold goOn; rw [if_neg (by simp), if_pos h1])
      clear h1
      go_enter Try.func52, Try.ntmps52
      go_wp2_with fail
      go_ret
      rw [HG.out]
      exact ⟨rfl, Ob.Obj.set H.out 2 (.int .i64 (e : Int)), HK.out _ _ _⟩
  · have heb : (((err : Nat) : Int) != 0) = true := by simp; omega
    have heb2 : (((err : Nat) : Int) == 0) = false := by simp; omega
    have HG := Lib.hid (show goOn (at', err) k e = (false, (at', err)) by unfold goOn; rw [if_pos he])
    clear he
    go_enter Try.func52, Try.ntmps52
    go_wp2_with fail
    go_ret
    rw [HG.out]
    exact ⟨rfl, H.out, Sq.Kept.refl _ _⟩
theorem rdU_goOn (l : Dat) (most : Nat) (s : RS) (n k e : Nat) (h : Cd.takeU (l.drop s.1) = (n, k, e)) (e' : Nat) (he : e' = if e = 0 ∧ most < n then 3 else e) :
    (rdU l most s).2 = (goOn s k e').2 ∧ (rdU l most s).1 = if (goOn s k e').1 = true then n else 0 := by
  unfold rdU goOn
  rw [h, he]
  by_cases h0 : s.2 = 0
  · by_cases h1 : e = 0
    · subst h1
      by_cases h2 : most < n
      · simp [h0, h2]
      · simp [h0, h2]
    · simp [h0, h1]
  · simp [h0]
theorem rdI_goOn (l : Dat) (s : RS) (n k e : Nat) (h : Cd.takeU (l.drop s.1) = (n, k, e)) :
    (rdI l s).2 = (goOn s k e).2 ∧ (rdI l s).1 = if (goOn s k e).1 = true then Cd.unzig n else 0 := by
  unfold rdI goOn
  rw [h]
  by_cases h0 : s.2 = 0
  · by_cases h1 : e = 0
    · subst h1
      simp [h0]
    · simp [h0, h1]
  · simp [h0]

set_option maxRecDepth 100000 in
set_option maxHeartbeats 4000000 in
theorem unsigned_any (t : Nat) (l : Dat) (s : RS) (M : Int) (most : Nat) (hM : M = most) (w : World) (h : Tk w t l s) (hs : s.1 ≤ l.length) (hl : l.length ≤ 2097152) (hm : most ≤ 1099511627776) :
    Calls Try.prog 37 #[.pointer (some ⟨t, 0, none⟩), .int .u64 M] w fun r w' => r = .returned (.int .i64 ((rdU l most s).1 : Int)) ∧ Tk w' t l (rdU l most s).2 ∧ Sq.Kept (fun k => k ≠ t) w w' := by
  subst hM
  have hT := fun W => takec_any (Cd.bs (l.drop s.1)) W (by show (l.drop s.1).length ≤ maxLen; rw [List.length_drop]; unfold maxLen; omega)
  change ∀ W, Calls _ _ _ W fun e w' => e = .returned (.tuple #[.int .u64 (Cd.takeU (l.drop s.1)).1, .int .i64 (Cd.takeU (l.drop s.1)).2.1, .int .i64 (Cd.takeU (l.drop s.1)).2.2]) ∧ W = w' at hT
  obtain ⟨o1, o2, o3, o4⟩ := Cd.takeU_ok (l.drop s.1)
  rw [List.length_drop] at o3
  obtain ⟨n, k, e, ht⟩ : ∃ n k e, Cd.takeU (l.drop s.1) = (n, k, e) := ⟨_, _, _, rfl⟩
  rw [ht] at hT o1 o2 o3 o4
  simp only at o1 o2 o3 o4
  have HR := Lib.hid (fun e' he => rdU_goOn l most s n k e ht e' he)
  have hle := (rdU_rd most (by omega)).sound l s hs
  clear ht hle
  have c0 := Ob.Obj.cell h 0
  have c1 := Ob.Obj.cell h 1
  simp at c0 c1
  have hsz : (Cd.bs l).size = l.length := rfl
  have hx := ext_drop13 l s.1
  have HG := Lib.hid (fun W (h : Tk W t l s) e' E hE => goOn_any t l s k e' E hE W h (by omega) (by omega))
  have H := Lib.hid (show Tk w.drew t l s from h)
  have HT := Lib.hid hT
  have hi1 : (0 : Int) ≤ (s.1 : Int) ∧ (s.1 : Int) ≤ (l.length : Int) := by omega
  obtain ⟨at', err⟩ := s
  simp only at *
  clear hT h
  obtain ⟨e', he'⟩ : ∃ e', e' = if e = 0 ∧ most < n then 3 else e := ⟨_, rfl⟩
  obtain ⟨hr2, hr1⟩ := HR.out e' he'
  have hrl : (rdU l most (at', err)).1 ≤ most := by
    unfold rdU
    split
    · exact Nat.zero_le _
    · split
      · exact Nat.zero_le _
      · split
        · exact Nat.zero_le _
        · omega
  have HGE := Lib.hid (fun W h E hE => HG.out W h e' E hE)
  rw [hr1] at hrl
  rw [hr1, hr2]
  generalize goOn (at', err) k e' = g at *
  obtain ⟨b, s'⟩ := g
  simp only at hrl HGE
  have h3 : (e = 0 ∧ e' = 3 ∧ (most : Int) < (n : Int)) ∨ (e = 0 ∧ e' = 0 ∧ ¬ (most : Int) < (n : Int)) ∨ ((((e : Nat) : Int) == 0) = false ∧ e' = e) := by
    by_cases h0 : e = 0
    · by_cases h1 : most < n
      · exact .inl ⟨h0, by rw [he', if_pos ⟨h0, h1⟩], by omega⟩
      · exact .inr (.inl ⟨h0, by rw [he', if_neg (by omega)]; exact h0, by omega⟩)
    · exact .inr (.inr ⟨by simp; omega, by rw [he', if_neg (by omega)]⟩)
  clear he' hr1 hr2 HR HG o2 o4
  have HRL := Lib.hid hrl
  clear hrl
  cases b with
  | false =>
    rcases h3 with ⟨rfl, rfl, h1⟩ | ⟨rfl, rfl, h1⟩ | ⟨h0, rfl⟩
    · skip
      have HX := Lib.hid (fun W h => HGE.out W h 3 rfl)
      go_enter Try.func37, Try.ntmps37
      go_wp2_with fail
      go_region_with (go_at_call 51; (try rw [hx]); (with_reducible refine (HT.out _).mono ?_); rintro e w1 ⟨rfl, rfl⟩)
      all_goals go_wp2_with (go_at_call 52; (with_reducible refine (HX.out _ H.out).mono ?_); rintro e w2 ⟨rfl, hT2, hk2⟩)
      all_goals go_ret
      all_goals exact ⟨rfl, hT2, (Sq.Kept.drew _ _).trans hk2⟩
    · skip
      have HX := Lib.hid (fun W h => HGE.out W h 0 rfl)
      go_enter Try.func37, Try.ntmps37
      go_wp2_with fail
      go_region_with (go_at_call 51; (try rw [hx]); (with_reducible refine (HT.out _).mono ?_); rintro e w1 ⟨rfl, rfl⟩)
      all_goals go_wp2_with (go_at_call 52; (with_reducible refine (HX.out _ H.out).mono ?_); rintro e w2 ⟨rfl, hT2, hk2⟩)
      all_goals go_ret
      all_goals exact ⟨rfl, hT2, (Sq.Kept.drew _ _).trans hk2⟩
    · skip
      have HX := Lib.hid (fun W h => HGE.out W h _ rfl)
      go_enter Try.func37, Try.ntmps37
      go_wp2_with fail
      go_region_with (go_at_call 51; (try rw [hx]); (with_reducible refine (HT.out _).mono ?_); rintro e w1 ⟨rfl, rfl⟩)
      all_goals go_wp2_with (go_at_call 52; (with_reducible refine (HX.out _ H.out).mono ?_); rintro e w2 ⟨rfl, hT2, hk2⟩)
      all_goals go_ret
      all_goals exact ⟨rfl, hT2, (Sq.Kept.drew _ _).trans hk2⟩
  | true =>
    have hnm : n ≤ most := HRL.out
    have hw : IntKind.i64.wrap (n : Int) = (n : Int) := by rw [IntKind.wrap_i64]; omega
    rcases h3 with ⟨rfl, rfl, h1⟩ | ⟨rfl, rfl, h1⟩ | ⟨h0, rfl⟩
    · exfalso; omega
    · skip
      have HX := Lib.hid (fun W h => HGE.out W h 0 rfl)
      go_enter Try.func37, Try.ntmps37
      go_wp2_with fail
      go_region_with (go_at_call 51; (try rw [hx]); (with_reducible refine (HT.out _).mono ?_); rintro e w1 ⟨rfl, rfl⟩)
      all_goals go_wp2_with (go_at_call 52; (with_reducible refine (HX.out _ H.out).mono ?_); rintro e w2 ⟨rfl, hT2, hk2⟩)
      all_goals go_ret
      all_goals exact ⟨rfl, hT2, (Sq.Kept.drew _ _).trans hk2⟩
    · skip
      have HX := Lib.hid (fun W h => HGE.out W h _ rfl)
      go_enter Try.func37, Try.ntmps37
      go_wp2_with fail
      go_region_with (go_at_call 51; (try rw [hx]); (with_reducible refine (HT.out _).mono ?_); rintro e w1 ⟨rfl, rfl⟩)
      all_goals go_wp2_with (go_at_call 52; (with_reducible refine (HX.out _ H.out).mono ?_); rintro e w2 ⟨rfl, hT2, hk2⟩)
      all_goals go_ret
      all_goals exact ⟨rfl, hT2, (Sq.Kept.drew _ _).trans hk2⟩

set_option maxRecDepth 100000 in
set_option maxHeartbeats 4000000 in
theorem signed_any (t : Nat) (l : Dat) (s : RS) (w : World) (h : Tk w t l s) (hs : s.1 ≤ l.length) (hl : l.length ≤ 2097152) :
    Calls Try.prog 54 #[.pointer (some ⟨t, 0, none⟩)] w fun r w' => r = .returned (.int .i64 (rdI l s).1) ∧ Tk w' t l (rdI l s).2 ∧ Sq.Kept (fun k => k ≠ t) w w' := by
  have hT := fun W => takeIc_any (Cd.bs (l.drop s.1)) W (by show (l.drop s.1).length ≤ maxLen; rw [List.length_drop]; unfold maxLen; omega)
  change ∀ W, Calls _ _ _ W fun e w' => e = .returned (.tuple #[.int .i64 (Cd.unzig (Cd.takeU (l.drop s.1)).1), .int .i64 (Cd.takeU (l.drop s.1)).2.1, .int .i64 (Cd.takeU (l.drop s.1)).2.2]) ∧ W = w' at hT
  obtain ⟨o1, o2, o3, o4⟩ := Cd.takeU_ok (l.drop s.1)
  rw [List.length_drop] at o3
  obtain ⟨n, k, e, ht⟩ : ∃ n k e, Cd.takeU (l.drop s.1) = (n, k, e) := ⟨_, _, _, rfl⟩
  rw [ht] at hT o1 o2 o3 o4
  simp only at o1 o2 o3 o4
  obtain ⟨hr2, hr1⟩ := rdI_goOn l s n k e ht
  clear ht
  have c0 := Ob.Obj.cell h 0
  have c1 := Ob.Obj.cell h 1
  simp at c0 c1
  have hsz : (Cd.bs l).size = l.length := rfl
  have hx := ext_drop13 l s.1
  have HG := Lib.hid (fun W (h : Tk W t l s) => goOn_any t l s k e (e : Int) rfl W h (by omega) (by omega))
  have H := Lib.hid (show Tk w.drew t l s from h)
  have HT := Lib.hid hT
  have hi1 : (0 : Int) ≤ (s.1 : Int) ∧ (s.1 : Int) ≤ (l.length : Int) := by omega
  obtain ⟨at', err⟩ := s
  simp only at *
  rw [hr1, hr2]
  clear hT h hr1 hr2 o2 o4
  generalize goOn (at', err) k e = g at *
  obtain ⟨b, s'⟩ := g
  generalize Cd.unzig n = m at *
  simp only at HG
  cases b with
  | false =>
    go_enter Try.func54, Try.ntmps54
    go_wp2_with fail
    go_region_with (go_at_call 57; (try rw [hx]); (with_reducible refine (HT.out _).mono ?_); rintro e w1 ⟨rfl, rfl⟩)
    all_goals go_wp2_with (go_at_call 52; (with_reducible refine (HG.out _ H.out).mono ?_); rintro e w2 ⟨rfl, hT2, hk2⟩)
    all_goals go_ret
    all_goals exact ⟨rfl, hT2, (Sq.Kept.drew _ _).trans hk2⟩
  | true =>
    go_enter Try.func54, Try.ntmps54
    go_wp2_with fail
    go_region_with (go_at_call 57; (try rw [hx]); (with_reducible refine (HT.out _).mono ?_); rintro e w1 ⟨rfl, rfl⟩)
    all_goals go_wp2_with (go_at_call 52; (with_reducible refine (HG.out _ H.out).mono ?_); rintro e w2 ⟨rfl, hT2, hk2⟩)
    all_goals go_ret
    all_goals exact ⟨rfl, hT2, (Sq.Kept.drew _ _).trans hk2⟩
end Co
end Go.Proofs.Ytfkfckohajpcfaa

/-
  codec.join: a range over a function that collects texts.
-/
namespace Go.Proofs.Ytfkfckohajpcfaa
open Go.RowKit Go.Shelf
set_option linter.unusedSimpArgs false
set_option linter.unusedVariables false

attribute [local go_sem] Oper.semAt_some

theorem wpListIn_append_own_string {F : Fence} {n' : Nat} {P : Program} {ops : Array Oper} {rest : List Oper} {o : Oper} {a : Act} {Q : Exit → Act → World → Prop} (w : World) (hgd : o.guard = none) (sl x : Operand) (t u : TypeId)
    (ho : o.op = .call { callee := .builtin .append, args := #[sl, x], argTypes := #[t, u] })
    (base : Nat) (e : TypeId) (i : TypeInfo) (ht : P.underlying t = some (.slice e)) (hu : P.underlying u = some .string) (hi : P.info? e = some i) (hz : i.zero = some (.int .u8 0))
    (hsize : i.size = 1) (hby : i.bytes = 1)
    (v : Value) (n : Nat) (xs : List Value) (hs : a.eval sl = v) (hown : w.ownsRow base e 1 v n xs) (s : ByteArray) (hx : a.eval x = .string s)
    (h63 : n + s.size ≤ maxLen) (hbytes : n + s.size ≤ 140737488355328) (hbase : base ≤ w.heap.size)
    (h : ∀ v' w', w'.ownsRow base e 1 v' (n + s.size) (xs ++ Lib.strCells s) → w.grownBy w' v.ownBlock → wpListIn F n' P ops Q rest (a.put o.dst v') w') : wpListIn F n' P ops Q (o :: rest) a w := by
  refine wpListIn_plain hgd fun K hK => ?_
  obtain ⟨v', w', hr, h2, h3, h4⟩ := Lib.run_append_own_string (P := P) w base t u o.type e i ht hu hi hz hsize hby v n xs hown s h63 hbytes hbase
  unfold Oper.wpIn
  refine ⟨?_, ?_⟩
  · simp [Oper.about, ho, resolve, Target.leads, Sem.run_pure]
  · rw [Oper.semAt_plain F _ _ (by rw [ho]; intro c hc'; cases hc')]
    simp [execOp, ho, resolve, invoke, builtin, hs, hx, hr, Result.andThen]
    exact hK _ _ (h v' w' h2 h3)

/-- a text that a range hands on: of at most so many bytes -/
abbrev Piece := { x : List UInt8 // x.length ≤ 1048576 }
def flat (pre : List Piece) : List UInt8 := (pre.map (·.1)).flatten
theorem flat_snoc (pre : List Piece) (x : Piece) : flat (pre ++ [x]) = flat pre ++ x.1 := by simp [flat]
theorem flat_len (pre : List Piece) : (flat pre).length ≤ pre.length * 1048576 := by
  induction pre with
  | nil => simp [flat]
  | cons x r ih =>
    have : flat (x :: r) = x.1 ++ flat r := by simp [flat]
    rw [this, List.length_append, List.length_cons]
    have := x.2
    omega
theorem ownsRow_slice {W : World} {base : Nat} {e : TypeId} {size : Nat} {v : Value} {k : Nat} {xs : List Value} (h : W.ownsRow base e size v k xs) : ∃ ao l cap, v = .slice ao l cap := by
  rcases h.2 with ⟨rfl, _⟩ | ⟨g, cap, _, rfl, _⟩
  · exact ⟨_, _, _, rfl⟩
  · exact ⟨_, _, _, rfl⟩
theorem stops_mono {α : Type} {F : Fence} {n : Nat} {P : Program} {g : Nat} {lb : Array Value} {encs : α → Array Value} {Kp : World → World → Prop} {S Sp : List α → Prop} {N : Nat} {w w0 : World}
    (h : SeqStopsK F n P g lb encs Kp S Sp N w) (hb : Below w.heap.size w w0) : SeqStopsK F n P g lb encs Kp S Sp N w0 :=
  fun l J Jx W hW => h l J Jx W (hb.trans (hW.mono hb.size))

/-- 'Boxed.appended' where the append laid no block of its own ahead -/
theorem Boxed_appended' {W w1 : World} {n₀ B : Nat} {t e : TypeId} {size : Nat} {v v' : Value} {k m : Nat} {xs ys : List Value}
    (hv : Boxed W B t v) (hte : t ≠ e) (hrow : W.ownsRow n₀ e size v k xs) (hn₀ : n₀ ≤ W.heap.size) (hB : n₀ ≤ B)
    (hown' : w1.ownsRow n₀ e size v' m ys) (hgrow : W.grownBy w1 v.ownBlock) :
    Boxed w1 B t v ∧ Boxed (w1.setCell ⟨B, 0, none⟩ v') B t v' ∧ (w1.setCell ⟨B, 0, none⟩ v').ownsRow n₀ e size v' m ys ∧ KeepsOthers W (w1.setCell ⟨B, 0, none⟩ v') ∧ Below n₀ W (w1.setCell ⟨B, 0, none⟩ v') := by
  have hv1 : Boxed w1 B t v := hv.kept hgrow (hv.not_row hte hrow)
  refine ⟨hv1, hv1.set v', hown'.kept (grownBy_setCell' w1 B v') (.inr (hv1.not_row hte hown').symm), ?_, ?_⟩
  · refine (KeepsOthers.of_grownBy hgrow fun j o ej hj => ?_).trans (KeepsOthers.setCell _ _ _)
    rcases hrow.2 with ⟨rfl, _⟩ | ⟨g, cap, cur, rfl, _, hgb, _⟩
    · simp [Value.ownBlock] at ej
    · obtain rfl : g = j := by simpa [Value.ownBlock] using ej
      rw [hgb] at hj; cases hj; rfl
  · refine ((Below.refl n₀ W).grown hgrow hn₀ fun j ej => ?_).setCell (p := ⟨B, 0, none⟩) hB v'
    rcases hrow.2 with ⟨rfl, _⟩ | ⟨g, cap, cur, rfl, hb, _, _⟩
    · simp [Value.ownBlock] at ej
    · obtain rfl : g = j := by simpa [Value.ownBlock] using ej
      exact hb

end Go.Proofs.Ytfkfckohajpcfaa
/-
  slices.Values over texts, and PutText, which joins two of them.
-/
namespace Go.Proofs.Ytfkfckohajpcfaa
open Go.RowKit Go.Shelf
set_option linter.unusedSimpArgs false
set_option linter.unusedVariables false

attribute [local go_sem] Oper.semAt_some

/-- what has come when k rounds are over: f 0, .., f (k - 1) -/
def upto {α : Type} (f : Nat → α) (k : Nat) : List α := (List.range k).map f
theorem upto_succ {α : Type} (f : Nat → α) (k : Nat) : upto f (k + 1) = upto f k ++ [f k] := by simp [upto, List.range_succ]
theorem upto_length {α : Type} (f : Nat → α) (k : Nat) : (upto f k).length = k := by simp [upto]

end Go.Proofs.Ytfkfckohajpcfaa
namespace Go.Proofs.Ytfkfckohajpcfaa
open Go.RowKit
set_option linter.unusedSimpArgs false
set_option linter.unusedVariables false

/-- the world of a row of four bytes, written one by one -/
def Row4 (w : World) (g : Nat) (l : List UInt8) : Prop := ∀ j, j < 4 → w.cell? ⟨g, j, none⟩ = some (.int .u8 ((l.getD j 0).toNat : Int)) ∧ w.frozen? ⟨g, j, none⟩ = false
theorem Row4.store {w : World} {g n k : Nat} {x : Value} (h : Row4 w g (Fr.litPart n k)) (hk : k < 4) (hx : x = .int .u8 ((Fr.litByte n k).toNat : Int)) :
    Row4 (w.setCell ⟨g, k, none⟩ x) g (Fr.litPart n (k + 1)) := by
  intro j hj
  rw [World.frozen?_setCell]
  refine ⟨?_, (h j hj).2⟩
  rw [Fr.litPart_get _ _ _ hj]
  by_cases hjk : j = k
  · subst hjk
    rw [World.cell?_setCell_same (h := (h j hj).1), hx, if_pos (by omega)]
  · rw [World.cell?_setCell_other (h := by simp only [ne_eq, Addr.mk.injEq, true_and, and_true]; omega), (h j hj).1, Fr.litPart_get _ _ _ hj]
    by_cases h1 : j < k
    · rw [if_pos h1, if_pos (by omega)]
    · rw [if_neg h1, if_neg (by omega)]
theorem Row4.conv {w : World} {g c : Nat} {l : List UInt8} (h : Row4 w g l) (hl : l.length = 4) : (convert 60 9 (.slice (some ⟨g, 0, none⟩) 4 c)).run Try.prog w = .ok (.string (Cd.bs l)) w := by
  have := run_convert_bytes_back (P := Try.prog) w 60 9 5 ⟨g, 0, none⟩ c l Try.underlying60 Try.underlying5 Try.underlying9 (fun j hj => by
    have := (h j (by omega)).1
    rw [List.getD_eq_getElem?_getD, List.getElem?_eq_getElem hj] at this
    have hp : (⟨g, 0, none⟩ : Addr).add j = ⟨g, j, none⟩ := by unfold Addr.add; split <;> simp_all
    rw [hp]; simpa using this)
  rwa [hl] at this
theorem Row4.new (w : World) (n : Nat) (T : TypeId) : Row4 (w.alloc (.cells #[.int .u8 0, .int .u8 0, .int .u8 0, .int .u8 0] T)) w.heap.size (Fr.litPart n 0) := by
  intro j hj
  rw [Fr.litPart_zero]
  match j, hj with
  | 0, _ => exact ⟨by go_simp, by go_simp⟩
  | 1, _ => exact ⟨by go_simp, by go_simp⟩
  | 2, _ => exact ⟨by go_simp, by go_simp⟩
  | 3, _ => exact ⟨by go_simp, by go_simp⟩

end Go.Proofs.Ytfkfckohajpcfaa
namespace Go.Proofs.Ytfkfckohajpcfaa
open Go.RowKit
set_option linter.unusedSimpArgs false
set_option linter.unusedVariables false

/-- string(b) of one byte that lies in a cell -/
theorem conv_cell (W : World) (g : Nat) (x : Int) (c : UInt8) (hx : x = (c.toNat : Int)) (h : W.cell? ⟨g, 0, none⟩ = some (.int .u8 x)) :
    (convert 60 9 (.slice (some ⟨g, 0, none⟩) 1 1)).run Try.prog W = .ok (.string (Cd.bs [c])) W := by
  have := run_convert_bytes_back (P := Try.prog) W 60 9 5 ⟨g, 0, none⟩ 1 [c] Try.underlying60 Try.underlying5 Try.underlying9 (fun j hj => by
    simp at hj; subst hj
    rw [show (⟨g, 0, none⟩ : Addr).add 0 = ⟨g, 0, none⟩ from by simp [Addr.add], h, hx]; rfl)
  simpa using this

theorem bcell {W w1 : World} (hb : Below W.heap.size W w1) : (∀ b o, b < W.heap.size → w1.cell? ⟨b, o, none⟩ = W.cell? ⟨b, o, none⟩) ∧ (∀ b o, b < W.heap.size → w1.frozen? ⟨b, o, none⟩ = W.frozen? ⟨b, o, none⟩) :=
  ⟨fun b o h => hb.cell (p := ⟨b, o, none⟩) h, fun b o h => hb.frozen (p := ⟨b, o, none⟩) h⟩

end Go.Proofs.Ytfkfckohajpcfaa