import Derived.RangeFuncBox
import Derived.RangeFuncLeaves
import Derived.RangeFuncNested
import Derived.Shelf.Abstract
import Derived.WalkKit
import Derived.OwnWalkIn
import Derived.TacticsInMore
import Derived.LoopNIn
import Derived.LoopIn
import Derived.Lib.AppendStr
import Derived.Lib.BufStepsIn
import Derived.Deep.RegionWith
import Derived.Deep.DeepCutAuto
import Derived.Deep.Cut
import Derived.Deep.CutRange
import Derived.Deep.LoopGhost
import Derived.Shelf.Strings.Builder1
import Derived.Shelf.Strings.BuilderF
import Derived.Shelf.Strings.BuilderK
import Derived.Test.YtmfeeampbmandaaProg
import Derived.WalkLawsBesides
import Derived.Below
import Derived.Lib.Hide
import Derived.Test.YtmfeeampbmandaaPart2
/-
  Plain data that a call has made itself, in rows of its own at B or above: kept, read, and put together by append. (What came in: XGen.)
-/
namespace Go.Proofs.Ytmfeeampbmandaa
open Go.RowKit
set_option linter.unusedVariables false
namespace Gn

/-- a row of elements, each of so many cells -/
def OwL (W : World) (B : Nat) (te : TypeId) (sz : Nat) {α : Type} (ow : List Value → α → Prop) (v : Value) (l : List α) : Prop :=
  ∃ rows : List (List Value), rows.length = l.length ∧ W.ownsRow B te sz v l.length rows.flatten ∧ ∀ j (h : j < l.length) (h' : j < rows.length), rows[j].length = sz ∧ ow rows[j] l[j]
mutual
def OwC (P : Program) (B : Nat) (W : World) : (t : Ty) → TypeId → List Value → t.Den → Prop
  | .int k, _, cs, (a : Int) => cs = [.int k a] ∧ (Lit.int k a).wf = true
  | .bool, _, cs, (x : Bool) => cs = [.bool x]
  | .str, _, cs, (l : List UInt8) => cs = [.string ⟨l.toArray⟩] ∧ l.length ≤ maxLen
  | .slice e, ti, cs, (l : List e.Den) => ∃ te v, P.underlying ti = some (.slice te) ∧ cs = [v] ∧ OwL W B te e.size (OwC P B W e te) v l
  | .struct fs, ti, cs, d => ∃ Fs, P.underlying ti = some (.struct Fs) ∧ OwCs P B W fs Fs.toList cs d
def OwCs (P : Program) (B : Nat) (W : World) : (fs : Tys) → List Field → List Value → fs.Den → Prop
  | .nil, _, cs, _ => cs = []
  | .cons t r, l, cs, d => ∃ f l' c1 c2, l = f :: l' ∧ cs = c1 ++ c2 ∧ c1.length = t.size ∧ OwC P B W t f.type c1 d.1 ∧ OwCs P B W r l' c2 d.2
end
mutual
/-- the element types of the rows within -/
def Ty.rowsOf (P : Program) : Ty → TypeId → List TypeId
  | .slice e, ti => (match P.underlying ti with | some (.slice te) => te :: e.rowsOf P te | _ => [])
  | .struct fs, ti => (match P.underlying ti with | some (.struct Fs) => fs.rowsOf P Fs.toList | _ => [])
  | .int _, _ => []
  | .bool, _ => []
  | .str, _ => []
def Tys.rowsOf (P : Program) : Tys → List Field → List TypeId
  | .nil, _ => []
  | .cons t r, l => (match l with | f :: l' => t.rowsOf P f.type ++ r.rowsOf P l' | [] => [])
end

/-- of the rows of these types at B or above none has turned -/
def Spared (B : Nat) (X : List TypeId) (W W' : World) : Prop := ∀ k c te fz, B ≤ k → te ∈ X → W.heap[k]? = some (.cells c te fz) → W'.heap[k]? = W.heap[k]?
theorem Spared.less {B : Nat} {X Y : List TypeId} {W W' : World} (h : Spared B X W W') (hs : ∀ t ∈ Y, t ∈ X) : Spared B Y W W' := fun k c te fz hk ht => h k c te fz hk (hs te ht)
theorem Spared.of_kept {B : Nat} {X : List TypeId} {W W' : World} {T : Sq.Blocks} (h : Sq.Kept T W W') (hT : ∀ k, B ≤ k → k < W.heap.size → T k) : Spared B X W W' :=
  fun k c te fz hk _ hh => h.block k (hT k hk (Array.getElem?_eq_some_iff.1 hh).1) (Array.getElem?_eq_some_iff.1 hh).1
theorem Spared.below {B : Nat} {X : List TypeId} {W W' : World} (h : Below W.heap.size W W') : Spared B X W W' :=
  fun k c te fz hk _ hh => h.block k (Array.getElem?_eq_some_iff.1 hh).1
theorem Spared.alloc {B : Nat} {X : List TypeId} (W : World) (o : Go.Obj) : Spared B X W (W.alloc o) := Spared.below ((Below.refl _ _).alloc (Nat.le_refl _) _)
/-- an append to a row of another type -/
theorem Spared.grown {B B' : Nat} {X : List TypeId} {W W' : World} {te : TypeId} {sz m : Nat} {v : Value} {xs : List Value} (hr : W.ownsRow B' te sz v m xs) (hg : W.grownBy W' v.ownBlock) (hX : te ∉ X) : Spared B X W W' := by
  intro k c t' fz hk ht hh
  refine hg.block k (Array.getElem?_eq_some_iff.1 hh).1 (fun e => ?_)
  rcases hr.2 with ⟨rfl, _⟩ | ⟨g, cap, cur, rfl, _, hgb, _⟩
  · simp [Value.ownBlock] at e
  · obtain rfl : k = g := by simpa [Value.ownBlock] using e
    rw [hgb] at hh
    injection hh with hh
    injection hh with _ h2 _
    exact hX (h2 ▸ ht)
/-- a store into an object of another type -/
theorem Spared.set {B : Nat} {X : List TypeId} {W : World} {b : Nat} {t : TypeId} {cs : List Value} (ho : Ob.Obj W b t cs) (j : Nat) (u : Value) (hX : t ∉ X) : Spared B X W (W.setCell ⟨b, j, none⟩ u) := by
  intro k c t' fz hk ht hh
  refine Below.heap_setCell _ _ _ _ (fun e => ?_)
  simp only at e
  subst e
  have := (show W.heap[k]? = _ from ho).symm.trans hh
  injection this with h1
  injection h1 with _ h2 _
  exact hX (h2 ▸ ht)
theorem row_spared {B : Nat} {X : List TypeId} {W W' : World} {te : TypeId} {sz m : Nat} {v : Value} {xs : List Value} (h : W.ownsRow B te sz v m xs) (hs : Spared B X W W') (ht : te ∈ X) : W'.ownsRow B te sz v m xs := by
  rcases h with ⟨h0, h1 | ⟨g, cap, cur, h1, h2, h3, h4⟩⟩
  · exact ⟨h0, .inl h1⟩
  · exact ⟨h0, .inr ⟨g, cap, cur, h1, h2, (hs g _ te _ h2 ht h3).trans h3, h4⟩⟩
theorem row_lower {W : World} {B B' : Nat} {e : TypeId} {sz m : Nat} {v : Value} {xs : List Value} (h : W.ownsRow B e sz v m xs) (hB : B' ≤ B) : W.ownsRow B' e sz v m xs := by
  rcases h with ⟨h0, h1 | ⟨g, cap, cur, h1, h2, h3, h4⟩⟩
  · exact ⟨h0, .inl h1⟩
  · exact ⟨h0, .inr ⟨g, cap, cur, h1, Nat.le_trans hB h2, h3, h4⟩⟩
mutual
theorem OwC.spared {P : Program} {B : Nat} {W W' : World} : ∀ (t : Ty) {ti : TypeId} {cs : List Value} {d : t.Den}, OwC P B W t ti cs d → Spared B (t.rowsOf P ti) W W' → OwC P B W' t ti cs d
  | .int k, _, cs, d, h, _ => h
  | .bool, _, cs, d, h, _ => h
  | .str, _, cs, d, h, _ => h
  | .slice e, ti, cs, d, h, hs => by
    obtain ⟨te, v, hu, h1, rows, h2, h3, h4⟩ := h
    have hro : (Ty.slice e).rowsOf P ti = te :: e.rowsOf P te := by simp only [Ty.rowsOf, hu]
    rw [hro] at hs
    exact ⟨te, v, hu, h1, rows, h2, row_spared h3 hs (List.mem_cons_self ..), fun j hj hj' => ⟨(h4 j hj hj').1, OwC.spared e (h4 j hj hj').2 (hs.less (fun t ht => List.mem_cons_of_mem _ ht))⟩⟩
  | .struct fs, ti, cs, d, h, hs => by
    obtain ⟨Fs, hu, h⟩ := h
    have hro : (Ty.struct fs).rowsOf P ti = fs.rowsOf P Fs.toList := by simp only [Ty.rowsOf, hu]
    rw [hro] at hs
    exact ⟨Fs, hu, OwCs.spared fs h hs⟩
theorem OwCs.spared {P : Program} {B : Nat} {W W' : World} : ∀ (fs : Tys) {l : List Field} {cs : List Value} {d : fs.Den}, OwCs P B W fs l cs d → Spared B (fs.rowsOf P l) W W' → OwCs P B W' fs l cs d
  | .nil, l, cs, d, h, _ => h
  | .cons t r, l, cs, d, h, hs => by
    obtain ⟨f, l', c1, c2, rfl, h2, h3, h4, h5⟩ := h
    have hro : (Tys.cons t r).rowsOf P (f :: l') = t.rowsOf P f.type ++ r.rowsOf P l' := rfl
    rw [hro] at hs
    exact ⟨f, l', c1, c2, rfl, h2, h3, OwC.spared t h4 (hs.less (fun t ht => List.mem_append_left _ ht)), OwCs.spared r h5 (hs.less (fun t ht => List.mem_append_right _ ht))⟩
end
mutual
theorem OwC.lower {P : Program} {B B' : Nat} {W : World} (hB : B' ≤ B) : ∀ (t : Ty) {ti : TypeId} {cs : List Value} {d : t.Den}, OwC P B W t ti cs d → OwC P B' W t ti cs d
  | .int k, _, cs, d, h => h
  | .bool, _, cs, d, h => h
  | .str, _, cs, d, h => h
  | .slice e, ti, cs, d, h => by
    obtain ⟨te, v, hu, h1, rows, h2, h3, h4⟩ := h
    exact ⟨te, v, hu, h1, rows, h2, row_lower h3 hB, fun j hj hj' => ⟨(h4 j hj hj').1, OwC.lower hB e (h4 j hj hj').2⟩⟩
  | .struct fs, ti, cs, d, h => by
    obtain ⟨Fs, hu, h⟩ := h
    exact ⟨Fs, hu, OwCs.lower hB fs h⟩
theorem OwCs.lower {P : Program} {B B' : Nat} {W : World} (hB : B' ≤ B) : ∀ (fs : Tys) {l : List Field} {cs : List Value} {d : fs.Den}, OwCs P B W fs l cs d → OwCs P B' W fs l cs d
  | .nil, l, cs, d, h => h
  | .cons t r, l, cs, d, h => by
    obtain ⟨f, l', c1, c2, rfl, h2, h3, h4, h5⟩ := h
    exact ⟨f, l', c1, c2, rfl, h2, h3, OwC.lower hB t h4, OwCs.lower hB r h5⟩
end
theorem flatten_get {sz : Nat} : ∀ (rows : List (List Value)), (∀ j (h : j < rows.length), rows[j].length = sz) → ∀ j (h : j < rows.length) k, k < sz → rows.flatten[j * sz + k]? = rows[j][k]?
  | [], _, j, h, _, _ => by simp at h
  | r :: rs, hl, 0, _, k, hk => by
    have h0 := hl 0 (by simp)
    simp only [List.getElem_cons_zero] at h0
    rw [List.flatten_cons, Nat.zero_mul, Nat.zero_add, List.getElem?_append_left (by omega)]
    rfl
  | r :: rs, hl, j + 1, h, k, hk => by
    have h0 := hl 0 (by simp)
    simp only [List.getElem_cons_zero] at h0
    have := flatten_get rs (fun i hi => by have := hl (i + 1) (by simpa using hi); simpa using this) j (by simpa using h) k hk
    rw [List.flatten_cons, List.getElem?_append_right (by rw [h0, Nat.succ_mul]; omega), h0, show (j + 1) * sz + k - sz = j * sz + k by rw [Nat.succ_mul]; omega]
    exact this
theorem flatten_len {sz : Nat} : ∀ (rows : List (List Value)), (∀ j (h : j < rows.length), rows[j].length = sz) → rows.flatten.length = rows.length * sz
  | [], _ => by simp
  | r :: rs, hl => by
    have h0 := hl 0 (by simp)
    simp only [List.getElem_cons_zero] at h0
    rw [List.flatten_cons, List.length_append, h0, flatten_len rs (fun i hi => by have := hl (i + 1) (by simpa using hi); simpa using this), List.length_cons, Nat.succ_mul]
    omega
theorem row_at {W : World} {B : Nat} {te : TypeId} {sz m : Nat} {v : Value} {xs : List Value} (h : W.ownsRow B te sz v m xs) :
    ∃ (a : Option Addr) (cap b : Nat), v = .slice a m cap ∧ m ≤ cap ∧ cap ≤ maxLen ∧ (0 < m → a = some ⟨b, 0, none⟩ ∧ B ≤ b ∧ b < W.heap.size ∧ ∀ j, j < m * sz → W.cell? ⟨b, j, none⟩ = xs[j]?) := by
  have hc := h
  rcases h.2 with ⟨rfl, rfl⟩ | ⟨g, cap, cur, rfl, h2, h3, h4, h5, h6⟩
  · exact ⟨none, 0, 0, rfl, Nat.le_refl _, Nat.zero_le _, fun h => by omega⟩
  · refine ⟨_, cap, g, rfl, h4, h5, fun _ => ⟨rfl, h2, (Array.getElem?_eq_some_iff.1 h3).1, fun j hj => ?_⟩⟩
    exact hc.cellAt j hj
mutual
theorem OwC.rd {P : Program} {B : Nat} {W : World} : ∀ (t : Ty) {ti : TypeId} {cs : List Value} {d : t.Den}, OwC P B W t ti cs d → RdC W.heap.size W t cs d
  | .int k, _, cs, d, h => h
  | .bool, _, cs, d, h => h
  | .str, _, cs, d, h => h
  | .slice e, ti, cs, d, h => by
    obtain ⟨te, v, hu, rfl, rows, h2, h3, h4⟩ := h
    obtain ⟨a, cap, b, rfl, g1, g2, g3⟩ := row_at h3
    refine ⟨a, cap, b, 0, rfl, g1, g2, fun h => ⟨(g3 h).1, (g3 h).2.2.1⟩, fun j hj => ?_⟩
    have hj' : j < rows.length := by omega
    obtain ⟨k1, k2⟩ := h4 j hj hj'
    refine ⟨rows[j], k1, fun k hk => ?_, OwC.rd e k2⟩
    have hlt : j * e.size + k < d.length * e.size := by
      have : (j + 1) * e.size ≤ d.length * e.size := Nat.mul_le_mul_right _ (by omega)
      rw [Nat.succ_mul] at this; omega
    rw [Nat.zero_add, (g3 (by omega)).2.2.2 _ hlt, flatten_get rows (fun i hi => (h4 i (by omega) hi).1) j hj' k hk]
  | .struct fs, ti, cs, d, h => by
    obtain ⟨Fs, hu, h⟩ := h
    exact OwCs.rd fs h
theorem OwCs.rd {P : Program} {B : Nat} {W : World} : ∀ (fs : Tys) {l : List Field} {cs : List Value} {d : fs.Den}, OwCs P B W fs l cs d → RdCs W.heap.size W fs cs d
  | .nil, l, cs, d, h => h
  | .cons t r, l, cs, d, h => by
    obtain ⟨f, l', c1, c2, rfl, h2, h3, h4, h5⟩ := h
    exact ⟨c1, c2, h2, h3, OwC.rd t h4, OwCs.rd r h5⟩
end
theorem OwL.nil {W : World} {B : Nat} {te : TypeId} {sz : Nat} {α : Type} {ow : List Value → α → Prop} : OwL W B te sz ow (.slice none 0 0) ([] : List α) :=
  ⟨[], rfl, World.ownsRow_nil _ _ _ _, fun j h => by simp at h⟩
/-- behind the append of one element: its row may lie elsewhere now -/
theorem OwL.snoc {P : Program} {W W2 : World} {B : Nat} {te : TypeId} {e : Ty} {v v2 : Value} {l : List e.Den} {rows : List (List Value)} {cs : List Value} {x : e.Den}
    (hr : rows.length = l.length) (hel : ∀ j (h : j < l.length) (h' : j < rows.length), rows[j].length = e.size ∧ OwC P B W e te rows[j] l[j]) (hx : OwC P B W e te cs x) (hcs : cs.length = e.size)
    (hown : W2.ownsRow B te e.size v2 (l.length + 1) (rows.flatten ++ cs)) (hs : Spared B (e.rowsOf P te) W W2) : OwL W2 B te e.size (OwC P B W2 e te) v2 (l ++ [x]) := by
  refine ⟨rows ++ [cs], by simp [hr], ?_, fun j h h' => ?_⟩
  · rw [List.length_append, List.length_singleton, List.flatten_append]
    simpa using hown
  · by_cases hj : j < l.length
    · rw [List.getElem_append_left hj, List.getElem_append_left (by omega)]
      exact ⟨(hel j hj (by omega)).1, OwC.spared e (hel j hj (by omega)).2 hs⟩
    · obtain rfl : j = l.length := by simp at h; omega
      rw [List.getElem_append_right (Nat.le_refl _), List.getElem_append_right (by omega)]
      simp only [Nat.sub_self, List.getElem_cons_zero, hr]
      exact ⟨hcs, OwC.spared e hx hs⟩
end Gn
end Go.Proofs.Ytmfeeampbmandaa

/-
  Plain mathematics of chapter 5 (wal): puts, batches, their loads; a load tells its batch. No program is named here.
-/
namespace Go.Proofs.Ytmfeeampbmandaa
namespace Cd
/-- what is read as a number is just that number's bytes -/
theorem takeGo_canon (l : List UInt8) : ∀ (i acc n j : Nat), i ≤ 9 → takeGo l i acc = (n, j, 0) → ∃ m, n = acc + m * 128 ^ i ∧ j = i + (putU m).length ∧ l = putU m ++ l.drop (putU m).length ∧ (0 < i → m ≠ 0) := by
  induction l with
  | nil => intro i acc n j _ h; simp [takeGo] at h
  | cons c r ih =>
    intro i acc n j hi h
    by_cases hbad : (i = 9 ∧ 1 < c.toNat) ∨ (0 < i ∧ c.toNat = 0)
    · rw [go_bad hbad] at h; simp at h
    · have hcb := c.toNat_lt
      by_cases hc : c.toNat < 128
      · rw [go_last hbad hc] at h
        have hp : putU c.toNat = [c] := by rw [putU, if_pos hc]; simp
        refine ⟨c.toNat, ?_, ?_, ?_, fun h0 e => hbad (.inr ⟨h0, e⟩)⟩
        · have := congrArg (·.1) h; simp only at this; rw [← this, Nat.mod_eq_of_lt hc]
        · have := congrArg (·.2.1) h; simp only at this; rw [hp]; exact this.symm
        · rw [hp]; rfl
      · rw [go_more hbad (by omega)] at h
        have hi9 : i + 1 ≤ 9 := by
          by_cases h9 : i = 9
          · exact absurd (.inl ⟨h9, by omega⟩) hbad
          · omega
        obtain ⟨m', h1, h2, h3, h4⟩ := ih (i + 1) _ n j hi9 h
        have hm0 := h4 (by omega)
        refine ⟨c.toNat % 128 + 128 * m', ?_, ?_, ?_, fun _ => by omega⟩
        · rw [h1, pow_s, Nat.add_mul, ← Nat.add_assoc]; congr 1; rw [← Nat.mul_assoc, Nat.mul_comm m' 128]
        · have e : putU (c.toNat % 128 + 128 * m') = UInt8.ofNat ((c.toNat % 128 + 128 * m') % 128 + 128) :: putU ((c.toNat % 128 + 128 * m') / 128) := by rw [putU, if_neg (by omega)]
          rw [e, show (c.toNat % 128 + 128 * m') / 128 = m' by omega, List.length_cons, h2]; omega
        · have e : putU (c.toNat % 128 + 128 * m') = UInt8.ofNat ((c.toNat % 128 + 128 * m') % 128 + 128) :: putU ((c.toNat % 128 + 128 * m') / 128) := by rw [putU, if_neg (by omega)]
          have ec : UInt8.ofNat ((c.toNat % 128 + 128 * m') % 128 + 128) = c := by
            rw [show (c.toNat % 128 + 128 * m') % 128 + 128 = c.toNat by omega]; simp
          rw [e, ec, show (c.toNat % 128 + 128 * m') / 128 = m' by omega, List.length_cons, List.drop_succ_cons, List.cons_append, ← h3]
theorem takeU_canon {l : List UInt8} {n k : Nat} (h : takeU l = (n, k, 0)) : l = putU n ++ l.drop k := by
  obtain ⟨m, h1, h2, h3, _⟩ := takeGo_canon l 0 0 n k (by omega) h
  obtain rfl : n = m := by simpa using h1
  rw [show k = (putU n).length by omega]
  exact h3
theorem takeT_canon {l t : List UInt8} {most : Int} {k : Nat} (h : takeT l most = (t, k, 0)) : l = putT t ++ l.drop k := by
  obtain ⟨n, k0, e, hu⟩ : ∃ n k0 e, takeU l = (n, k0, e) := ⟨_, _, _, rfl⟩
  by_cases he : e = 0
  · subst he
    have hl := (takeU_ok l).2.2.1
    rw [hu] at hl
    simp only at hl
    by_cases h1 : most.toNat < n
    · rw [takeT_most hu h1] at h; simp at h
    · by_cases h2 : l.length - k0 < n
      · rw [takeT_more hu (by omega) h2] at h; simp at h
      · rw [takeT_text hu (by omega) (by omega)] at h
        obtain rfl : (l.drop k0).take n = t := congrArg (·.1) h
        obtain rfl : k0 + n = k := congrArg (·.2.1) h
        have hc := takeU_canon hu
        unfold putT
        have hlen : ((l.drop k0).take n).length = n := by rw [List.length_take, List.length_drop]; omega
        rw [hlen, List.append_assoc, ← List.drop_drop, List.take_append_drop]
        exact hc
  · rw [takeT_err hu he] at h
    exact absurd (congrArg (·.2.2) h) he
end Cd

namespace Wa
open Fi (Dat TkS tkNum tkText)
abbrev putT : Gn.Ty := .struct (.cons .str (.cons .str (.cons .bool .nil)))
abbrev batchT : Gn.Ty := .struct (.cons (.int .u64) (.cons (.slice putT) .nil))
/-- a put: its key, its value, whether it takes away -/
abbrev Pt := List UInt8 × List UInt8 × Bool × Unit
abbrev Bt := Int × List Pt × Unit
/-- P5.2: may a put be? -/
def mayB (p : Pt) : Bool := decide (1 ≤ p.1.length) && decide (p.1.length ≤ 96) && decide (p.2.1.length ≤ 16384) && (!p.2.2.1 || decide (p.2.1 = []))
/-- P5.3: a put as bytes -/
def putB (p : Pt) : Dat := if p.2.2.1 = true then 1 :: Cd.putT p.1 else 0 :: (Cd.putT p.1 ++ Cd.putT p.2.1)
def load (seq : Nat) (l : List Pt) : Dat := Cd.putU seq ++ Cd.putU l.length ++ l.flatMap putB
def MaxSeq : Nat := 1125899906842624
/-- P5.2: Check -/
def check (l : List Pt) : Nat := if l.length ≤ 256 ∧ (∀ p ∈ l, mayB p = true) ∧ (load MaxSeq l).length ≤ 262144 then 0 else 1
/-- P5.3: may a batch be? -/
def Right (b : Bt) : Prop := check b.2.1 = 0 ∧ 0 < b.2.1.length ∧ 1 ≤ b.1 ∧ b.1 ≤ MaxSeq ∧ b.1 + b.2.1.length - 1 ≤ MaxSeq
instance (b : Bt) : Decidable (Right b) := by unfold Right; infer_instance
/-- P5.3: Encode -/
def encode (b : Bt) : Dat × Nat := if Right b then Fr.put 2 (load b.1.toNat b.2.1) else ([], 1)
def IsLoad (l : Dat) (b : Bt) : Prop := Right b ∧ load b.1.toNat b.2.1 = l
open Classical in
/-- P5.4: Decode -/
noncomputable def decode (l : Dat) : Option Bt := if h : ∃ b, IsLoad l b then some h.choose else none
def last (b : Bt) : Int := b.1 + b.2.1.length - 1
/-- P5.5, over the frames that stand one behind the other: each with its place; the place behind all -/
noncomputable def repGo : List (Nat × (UInt8 × Dat)) → Int → Nat → List Bt × Nat
  | [], _, e => ([], e)
  | x :: r, seq, e =>
    match (if x.2.1 = 2 then decode x.2.2 else none) with
    | some b => if seq < b.1 then (b :: (repGo r (last b) e).1, (repGo r (last b) e).2) else ([], x.1)
    | none => ([], x.1)
noncomputable def replay (s : Dat) : List Bt × Nat := repGo (Fr.allGo s 0).1 0 (Fr.allGo s 0).2

/-! ### a load tells its batch -/
theorem putB_inj {p q : Pt} {x y : Dat} (hp : mayB p = true) (hq : mayB q = true) (h : putB p ++ x = putB q ++ y) : p = q ∧ x = y := by
  obtain ⟨pk, pv, pd, _⟩ := p
  obtain ⟨qk, qv, qd, _⟩ := q
  simp [mayB] at hp hq
  cases pd <;> cases qd <;> simp only [putB, if_true, if_false, Bool.false_eq_true, List.cons_append] at h
  · have h' := List.cons.inj h
    have h2 := h'.2
    rw [List.append_assoc, List.append_assoc] at h2
    obtain ⟨e1, h3⟩ := Fi.putT_inj (by omega) (by omega) h2
    obtain ⟨e2, h4⟩ := Fi.putT_inj (by omega) (by omega) h3
    exact ⟨by rw [e1, e2], h4⟩
  · exact absurd (List.cons.inj h).1 (by decide)
  · exact absurd (List.cons.inj h).1 (by decide)
  · obtain ⟨e1, h3⟩ := Fi.putT_inj (by omega) (by omega) (List.cons.inj h).2
    have v1 := hp.2
    have v2 := hq.2
    simp at v1 v2
    exact ⟨by rw [e1, v1, v2], h3⟩
theorem puts_inj : ∀ {L L' : List Pt} {x y : Dat}, L.length = L'.length → (∀ p ∈ L, mayB p = true) → (∀ p ∈ L', mayB p = true) → L.flatMap putB ++ x = L'.flatMap putB ++ y → L = L' ∧ x = y
  | [], [], x, y, _, _, _, h => ⟨rfl, by simpa using h⟩
  | [], q :: r, _, _, hl, _, _, _ => by simp at hl
  | p :: r, [], _, _, hl, _, _, _ => by simp at hl
  | p :: r, q :: r', x, y, hl, hp, hq, h => by
    rw [List.flatMap_cons, List.flatMap_cons, List.append_assoc, List.append_assoc] at h
    obtain ⟨h1, h2⟩ := putB_inj (hp p (List.mem_cons_self ..)) (hq q (List.mem_cons_self ..)) h
    obtain ⟨h3, h4⟩ := puts_inj (by simpa using hl) (fun z hz => hp z (List.mem_cons_of_mem _ hz)) (fun z hz => hq z (List.mem_cons_of_mem _ hz)) h2
    exact ⟨by rw [h1, h3], h4⟩
theorem check_ok {l : List Pt} (h : check l = 0) : l.length ≤ 256 ∧ (∀ p ∈ l, mayB p = true) ∧ (load MaxSeq l).length ≤ 262144 := by
  unfold check at h
  split at h
  · assumption
  · cases h
theorem isLoad_same {l : Dat} {b c : Bt} (h1 : IsLoad l b) (h2 : IsLoad l c) : b = c := by
  obtain ⟨⟨r1, r2, r3, r4, r5⟩, e1⟩ := h1
  obtain ⟨⟨s1, s2, s3, s4, s5⟩, e2⟩ := h2
  obtain ⟨bs, bp, _⟩ := b
  obtain ⟨cs, cp, _⟩ := c
  simp only at *
  obtain ⟨k1, k2, _⟩ := check_ok r1
  obtain ⟨m1, m2, _⟩ := check_ok s1
  have hM : MaxSeq = 1125899906842624 := rfl
  rw [← e2] at e1
  unfold load at e1
  rw [List.append_assoc, List.append_assoc] at e1
  obtain ⟨a1, a2⟩ := Fi.putU_inj (by omega) (by omega) e1
  obtain ⟨b1, b2⟩ := Fi.putU_inj (by omega) (by omega) a2
  obtain ⟨c1, _⟩ := puts_inj (x := []) (y := []) b1 k2 m2 (by simpa using b2)
  rw [c1, show bs = cs by omega]
theorem decode_iff {l : Dat} {b : Bt} : decode l = some b ↔ IsLoad l b := by
  unfold decode
  constructor
  · intro h
    split at h
    · rename_i hx
      rw [← Option.some.inj h]
      exact hx.choose_spec
    · cases h
  · intro h
    have hx : ∃ b, IsLoad l b := ⟨b, h⟩
    rw [dif_pos hx]
    exact congrArg some (isLoad_same hx.choose_spec h)
theorem decode_none {l : Dat} : decode l = none ↔ ∀ b, ¬ IsLoad l b := by
  unfold decode
  constructor
  · intro h b hb
    rw [dif_pos ⟨b, hb⟩] at h
    cases h
  · intro h
    rw [dif_neg (fun ⟨b, hb⟩ => h b hb)]

/-! ### reading one, thing by thing, as the document does -/
def rdPut (s : TkS) : Pt × TkS :=
  if (tkNum 1 s).1 = 0 then (((tkText 96 (tkNum 1 s).2).1, (tkText 16384 (tkText 96 (tkNum 1 s).2).2).1, false, ()), (tkText 16384 (tkText 96 (tkNum 1 s).2).2).2)
  else (((tkText 96 (tkNum 1 s).2).1, [], true, ()), (tkText 96 (tkNum 1 s).2).2)
def rdPuts : Nat → List Pt → TkS → List Pt × TkS
  | 0, l, s => (l, s)
  | k + 1, l, s => if s.2 = true then (l, s) else rdPuts k (l ++ [(rdPut s).1]) (rdPut s).2
def rdCount (s : TkS) : Nat × TkS := tkNum 256 (tkNum MaxSeq s).2
def rdAll (s : TkS) : List Pt × TkS := rdPuts (rdCount s).1 [] (rdCount s).2
def rdB (l : Dat) : Bt := (((tkNum MaxSeq (l, false)).1 : Int), (rdAll (l, false)).1, ())
def decR (l : Dat) : Option Bt := if (rdAll (l, false)).2 = ([], false) ∧ Right (rdB l) then some (rdB l) else none

theorem tkNum_sound {most : Nat} {s : TkS} (h : (tkNum most s).2.2 = false) : s.2 = false ∧ s.1 = Cd.putU (tkNum most s).1 ++ (tkNum most s).2.1 := by
  unfold tkNum at h ⊢
  split at h
  · simp at h
  · rename_i hx
    rw [if_neg hx]
    simp only at h ⊢
    refine ⟨h, Cd.takeU_canon (k := (Cd.takeU s.1).2.1) ?_⟩
    have h0 : (Cd.takeU s.1).2.2 = 0 := by
      by_cases h0 : (Cd.takeU s.1).2.2 = 0
      · exact h0
      · exact absurd (.inr (.inl h0)) hx
    rw [← h0]
theorem tkText_sound {most : Nat} {s : TkS} (h : (tkText most s).2.2 = false) : s.2 = false ∧ s.1 = Cd.putT (tkText most s).1 ++ (tkText most s).2.1 := by
  unfold tkText at h ⊢
  split at h
  · simp at h
  · rename_i hx
    rw [if_neg hx]
    simp only at h ⊢
    refine ⟨h, Cd.takeT_canon (most := most) (k := (Cd.takeT s.1 most).2.1) ?_⟩
    have h0 : (Cd.takeT s.1 most).2.2 = 0 := by
      by_cases h0 : (Cd.takeT s.1 most).2.2 = 0
      · exact h0
      · exact absurd (.inr h0) hx
    rw [← h0]
theorem putU_0 : Cd.putU 0 = [0] := by rw [Cd.putU]; rfl
theorem putU_1 : Cd.putU 1 = [1] := by rw [Cd.putU]; rfl
theorem rdPut_sound {s : TkS} (h : (rdPut s).2.2 = false) : s.2 = false ∧ s.1 = putB (rdPut s).1 ++ (rdPut s).2.1 := by
  unfold rdPut at h ⊢
  split at h
  · rename_i hx
    rw [if_pos hx]
    simp only at h ⊢
    obtain ⟨h1, e1⟩ := tkText_sound h
    obtain ⟨h2, e2⟩ := tkText_sound h1
    obtain ⟨h3, e3⟩ := tkNum_sound h2
    refine ⟨h3, ?_⟩
    rw [hx, putU_0] at e3
    rw [e3, e2, e1]
    simp [putB]
  · rename_i hx
    rw [if_neg hx]
    simp only at h ⊢
    obtain ⟨h2, e2⟩ := tkText_sound h
    obtain ⟨h3, e3⟩ := tkNum_sound h2
    have hle := Fi.tkNum_le 1 s
    refine ⟨h3, ?_⟩
    rw [show (tkNum 1 s).1 = 1 by omega, putU_1] at e3
    rw [e3, e2]
    simp [putB]
theorem rdPuts_sound : ∀ (k : Nat) (l : List Pt) (s : TkS), (rdPuts k l s).2.2 = false → s.2 = false ∧ ∃ L, (rdPuts k l s).1 = l ++ L ∧ L.length = k ∧ s.1 = L.flatMap putB ++ (rdPuts k l s).2.1
  | 0, l, s, h => ⟨h, [], by simp [rdPuts], rfl, by simp [rdPuts]⟩
  | k + 1, l, s, h => by
    rw [rdPuts] at h ⊢
    split at h
    · rename_i hs; rw [hs] at h; cases h
    · rename_i hs
      rw [if_neg hs]
      obtain ⟨h1, L, e1, e2, e3⟩ := rdPuts_sound k _ _ h
      obtain ⟨h2, e4⟩ := rdPut_sound h1
      exact ⟨h2, (rdPut s).1 :: L, by rw [e1, List.append_assoc]; rfl, by rw [List.length_cons, e2], by rw [List.flatMap_cons, List.append_assoc, ← e3]; exact e4⟩
theorem rdPut_put {p : Pt} {x : Dat} (hp : mayB p = true) : rdPut (putB p ++ x, false) = (p, (x, false)) := by
  obtain ⟨pk, pv, pd, _⟩ := p
  simp [mayB] at hp
  cases pd
  · have e1 : tkNum 1 (putB (pk, pv, false, ()) ++ x, false) = (0, (Cd.putT pk ++ (Cd.putT pv ++ x), false)) := by
      have := Fi.tkNum_put (most := 1) (a := 0) (Cd.putT pk ++ (Cd.putT pv ++ x)) (by omega) (by omega)
      rw [putU_0] at this
      simpa [putB] using this
    unfold rdPut
    rw [e1]
    simp only [if_true]
    rw [Fi.tkText_put _ (by omega) (by omega)]
    simp only
    rw [Fi.tkText_put _ (by omega) (by omega)]
  · have e1 : tkNum 1 (putB (pk, pv, true, ()) ++ x, false) = (1, (Cd.putT pk ++ x, false)) := by
      have := Fi.tkNum_put (most := 1) (a := 1) (Cd.putT pk ++ x) (by omega) (by omega)
      rw [putU_1] at this
      simpa [putB] using this
    unfold rdPut
    rw [e1]
    simp only
    rw [if_neg (by omega), Fi.tkText_put _ (by omega) (by omega)]
    have := hp.2
    simp at this
    rw [this]
theorem rdPuts_put : ∀ (L l : List Pt) (x : Dat), (∀ p ∈ L, mayB p = true) → rdPuts L.length l (L.flatMap putB ++ x, false) = (l ++ L, (x, false))
  | [], l, x, _ => by simp [rdPuts]
  | p :: r, l, x, h => by
    rw [List.length_cons, rdPuts, if_neg (by simp), List.flatMap_cons, List.append_assoc, rdPut_put (h p (List.mem_cons_self ..))]
    simp only
    rw [rdPuts_put r _ x (fun q hq => h q (List.mem_cons_of_mem _ hq)), List.append_assoc]
    rfl
theorem decR_decode (l : Dat) : decR l = decode l := by
  have hM : MaxSeq = 1125899906842624 := rfl
  cases hd : decode l with
  | some b =>
    obtain ⟨hr, hl⟩ := decode_iff.1 hd
    have hr0 := hr
    obtain ⟨r1, r2, r3, r4, r5⟩ := hr
    obtain ⟨k1, k2, _⟩ := check_ok r1
    have e1 : tkNum MaxSeq (l, false) = (b.1.toNat, (Cd.putU b.2.1.length ++ (b.2.1.flatMap putB ++ []), false)) := by
      rw [← hl]; unfold load
      rw [List.append_assoc, List.append_nil]
      exact Fi.tkNum_put _ (by omega) (by omega)
    have e2 : rdCount (l, false) = (b.2.1.length, (b.2.1.flatMap putB ++ [], false)) := by
      unfold rdCount
      rw [e1]
      exact Fi.tkNum_put _ k1 (by omega)
    have e3 : rdAll (l, false) = (b.2.1, ([], false)) := by
      unfold rdAll
      rw [e2]
      have := rdPuts_put b.2.1 [] [] k2
      simpa using this
    have e4 : rdB l = b := by
      unfold rdB
      rw [e3, e1]
      obtain ⟨bs, bp, _⟩ := b
      simp only at r3 ⊢
      rw [show ((bs.toNat : Nat) : Int) = bs by omega]
    unfold decR
    rw [e3, e4, if_pos ⟨rfl, hr0⟩]
  | none =>
    have hn := decode_none.1 hd
    unfold decR
    split
    · rename_i h
      refine absurd ⟨h.2, ?_⟩ (hn (rdB l))
      have h1 := h.1
      have hb : (rdPuts (rdCount (l, false)).1 [] (rdCount (l, false)).2).2.2 = false := congrArg (·.2) h1
      obtain ⟨g1, L, g2, g3, g4⟩ := rdPuts_sound _ _ _ hb
      have hrest : (rdPuts (rdCount (l, false)).1 [] (rdCount (l, false)).2).2.1 = [] := congrArg (·.1) h1
      rw [hrest, List.append_nil] at g4
      obtain ⟨g5, g6⟩ := tkNum_sound (s := (tkNum MaxSeq (l, false)).2) (most := 256) g1
      obtain ⟨_, g7⟩ := tkNum_sound (s := (l, false)) (most := MaxSeq) g5
      have hL : (rdB l).2.1 = L := by unfold rdB rdAll; rw [g2]; rfl
      unfold load
      rw [hL]
      show Cd.putU (((tkNum MaxSeq (l, false)).1 : Int)).toNat ++ Cd.putU L.length ++ L.flatMap putB = l
      have g7' : l = Cd.putU (tkNum MaxSeq (l, false)).1 ++ (tkNum MaxSeq (l, false)).2.1 := g7
      have hk : L.length = (tkNum 256 (tkNum MaxSeq (l, false)).2).1 := g3
      rw [Int.toNat_natCast, hk, List.append_assoc, ← g4]
      exact (congrArg (Cd.putU (tkNum MaxSeq (l, false)).1 ++ ·) g6).symm.trans g7'.symm
    · rfl
end Wa
end Go.Proofs.Ytmfeeampbmandaa

/-
  codec.join: a range over a function that collects texts.
-/
namespace Go.Proofs.Ytmfeeampbmandaa
open Go.RowKit Go.Shelf
set_option linter.unusedSimpArgs false
set_option linter.unusedVariables false

attribute [local go_sem] Oper.semAt_some

theorem wpListIn_append_own_string {F : Fence} {n' : Nat} {P : Program} {ops : Array Oper} {rest : List Oper} {o : Oper} {a : Act} {Q : Exit → Act → World → Prop} (w : World) (hgd : o.guard = none) (sl x : Operand) (t u : TypeId)
    (ho : o.op = .call { callee := .builtin .append, args := #[sl, x], argTypes := #[t, u] })
    (base : Nat) (e : TypeId) (i : TypeInfo) (ht : P.underlying t = some (.slice e)) (hu : P.underlying u = some .string) (hi : P.info? e = some i) (hz : i.zero = some (.int .u8 0))
    (hsize : i.size = 1) (hby : i.bytes = 1)
    (v : Value) (n : Nat) (xs : List Value) (hs : a.eval sl = v) (hown : w.ownsRow base e 1 v n xs) (s : ByteArray) (hx : a.eval x = .string s)
    (h63 : n + s.size ≤ maxLen) (hbytes : n + s.size ≤ 140737488355328) (hbase : base ≤ w.heap.size)
    (h : ∀ v' w', w'.ownsRow base e 1 v' (n + s.size) (xs ++ Lib.strCells s) → w.grownBy w' v.ownBlock → wpListIn F n' P ops Q rest (a.put o.dst v') w') : wpListIn F n' P ops Q (o :: rest) a w := by
  refine wpListIn_plain hgd fun K hK => ?_
  obtain ⟨v', w', hr, h2, h3, h4⟩ := Lib.run_append_own_string (P := P) w base t u o.type e i ht hu hi hz hsize hby v n xs hown s h63 hbytes hbase
  unfold Oper.wpIn
  refine ⟨?_, ?_⟩
  · simp [Oper.about, ho, resolve, Target.leads, Sem.run_pure]
  · rw [Oper.semAt_plain F _ _ (by rw [ho]; intro c hc'; cases hc')]
    simp [execOp, ho, resolve, invoke, builtin, hs, hx, hr, Result.andThen]
    exact hK _ _ (h v' w' h2 h3)

/-- a text that a range hands on: of at most so many bytes -/
abbrev Piece := { x : List UInt8 // x.length ≤ 1048576 }
def flat (pre : List Piece) : List UInt8 := (pre.map (·.1)).flatten
theorem flat_snoc (pre : List Piece) (x : Piece) : flat (pre ++ [x]) = flat pre ++ x.1 := by simp [flat]
theorem flat_len (pre : List Piece) : (flat pre).length ≤ pre.length * 1048576 := by
  induction pre with
  | nil => simp [flat]
  | cons x r ih =>
    have : flat (x :: r) = x.1 ++ flat r := by simp [flat]
    rw [this, List.length_append, List.length_cons]
    have := x.2
    omega
theorem ownsRow_slice {W : World} {base : Nat} {e : TypeId} {size : Nat} {v : Value} {k : Nat} {xs : List Value} (h : W.ownsRow base e size v k xs) : ∃ ao l cap, v = .slice ao l cap := by
  rcases h.2 with ⟨rfl, _⟩ | ⟨g, cap, _, rfl, _⟩
  · exact ⟨_, _, _, rfl⟩
  · exact ⟨_, _, _, rfl⟩
theorem stops_mono {α : Type} {F : Fence} {n : Nat} {P : Program} {g : Nat} {lb : Array Value} {encs : α → Array Value} {Kp : World → World → Prop} {S Sp : List α → Prop} {N : Nat} {w w0 : World}
    (h : SeqStopsK F n P g lb encs Kp S Sp N w) (hb : Below w.heap.size w w0) : SeqStopsK F n P g lb encs Kp S Sp N w0 :=
  fun l J Jx W hW => h l J Jx W (hb.trans (hW.mono hb.size))

/-- 'Boxed.appended' where the append laid no block of its own ahead -/
theorem Boxed_appended' {W w1 : World} {n₀ B : Nat} {t e : TypeId} {size : Nat} {v v' : Value} {k m : Nat} {xs ys : List Value}
    (hv : Boxed W B t v) (hte : t ≠ e) (hrow : W.ownsRow n₀ e size v k xs) (hn₀ : n₀ ≤ W.heap.size) (hB : n₀ ≤ B)
    (hown' : w1.ownsRow n₀ e size v' m ys) (hgrow : W.grownBy w1 v.ownBlock) :
    Boxed w1 B t v ∧ Boxed (w1.setCell ⟨B, 0, none⟩ v') B t v' ∧ (w1.setCell ⟨B, 0, none⟩ v').ownsRow n₀ e size v' m ys ∧ KeepsOthers W (w1.setCell ⟨B, 0, none⟩ v') ∧ Below n₀ W (w1.setCell ⟨B, 0, none⟩ v') := by
  have hv1 : Boxed w1 B t v := hv.kept hgrow (hv.not_row hte hrow)
  refine ⟨hv1, hv1.set v', hown'.kept (grownBy_setCell' w1 B v') (.inr (hv1.not_row hte hown').symm), ?_, ?_⟩
  · refine (KeepsOthers.of_grownBy hgrow fun j o ej hj => ?_).trans (KeepsOthers.setCell _ _ _)
    rcases hrow.2 with ⟨rfl, _⟩ | ⟨g, cap, cur, rfl, _, hgb, _⟩
    · simp [Value.ownBlock] at ej
    · obtain rfl : g = j := by simpa [Value.ownBlock] using ej
      rw [hgb] at hj; cases hj; rfl
  · refine ((Below.refl n₀ W).grown hgrow hn₀ fun j ej => ?_).setCell (p := ⟨B, 0, none⟩) hB v'
    rcases hrow.2 with ⟨rfl, _⟩ | ⟨g, cap, cur, rfl, hb, _, _⟩
    · simp [Value.ownBlock] at ej
    · obtain rfl : g = j := by simpa [Value.ownBlock] using ej
      exact hb

set_option maxRecDepth 100000 in
set_option maxHeartbeats 2000000 in
/-- join: the pieces one behind the other -/
theorem join_in (F : Fence) (n : Nat) (hf : F.fn 53) (hro : F.round = none) (hn : 3 ≤ n) (gf : Nat) (hgf : F.fn gf) (eg : ∀ args w, (callFunc gf args).run Try.prog w = .ok (.enter gf args) w) (lb : Array Value)
    (N : Nat) (hN : N ≤ 4194304) (w : World) {S Sp : List Piece → Prop}
    (hseq : SeqStopsK F (n - 1) Try.prog gf lb (fun x : Piece => #[Value.string (Cd.bs x.1)]) (Below w.heap.size) S Sp N w) :
    CallsIn F n Try.prog 53 #[.func (.func gf) #[] lb] w fun e W' => ∃ ys, S ys ∧ e = .returned (.string (Cd.bs (flat ys))) ∧ Below w.heap.size w W' := by
  have h1 : 1 ≤ n := by omega
  obtain ⟨i0, hi, hz0, hz1, hz2⟩ := info_parts info_u8
  refine callsIn_of_wp_marks Try.func53 rfl hf ?_ hro
  simp only [Try.ntmps53, List.size_toArray, List.length_cons, List.length_nil, Nat.reduceAdd, Nat.reduceSub, Array.replicate_succ, Array.replicate_zero, List.push_toArray, List.append_toArray, List.nil_append, List.cons_append]
  gi_wp2
  have bO := Boxed.new w 67 (.slice none 0 0)
  have hB0 : Below w.heap.size w (w.alloc (.cells #[.slice none 0 0] 67)) := (Below.refl _ w).alloc (Nat.le_refl _) _
  refine wpIn_rangeFunc_ownG hro h1 (gf := gf) (lb := lb) rfl hgf eg
    (stops_mono hseq hB0) belowK_t (belowK_b (by simp)) (Below.refl _ _) (fun _ => rfl)
    (fun pre W => (∃ v, Boxed W w.heap.size 67 v ∧ W.ownsRow w.heap.size 5 1 v (flat pre).length (Cd.cs (flat pre)) ∧ True) ∧ Below w.heap.size w W)
    (fun _ _ _ => False)
    (OwnFrom.and (Own.from (holdsRow_own w.heap.size w.heap.size 67 5 1 (fun pre => (flat pre).length) (fun pre => Cd.cs (flat pre)) (fun _ _ => True)) _) (ownFrom_below (Nat.le_refl _) (by simp)))
    (fun _ _ _ _ _ hs _ _ => hs)
    ⟨⟨_, bO, World.ownsRow_nil _ _ _ _, trivial⟩, hB0⟩
    (fun x => { tmps := #[.func (.func gf) #[] lb, undef, .string ⟨#[]⟩, .pointer (some ⟨w.heap.size, 0, none⟩), .string (Cd.bs x.1), .func (.func gf) #[] lb, .string (Cd.bs x.1), undef, undef, undef, undef, undef], defers := [] }) ?assign ?body ?done ?stop
  case assign =>
    intro l x W K hK
    gi_wp2
    exact hK
  case body =>
    rintro l pre x W ⟨⟨v, hv, hrow, _⟩, hB⟩ hlt
    have hc := hv.cell
    have hf := hv.frozen
    have hpl := flat_len pre
    have hx := x.2
    have hsz : (Cd.bs x.1).size = x.1.length := rfl
    have HSZ := Lib.hid hsz
    clear hsz
    have hBs := hB.size
    gi_wp2_with (gi_at_builtin; refine wpListIn_append_own_string _ rfl _ _ 67 9 rfl w.heap.size 5 i0 Try.underlying67 Try.underlying9 hi hz0 hz1 hz2 _ _ _ rfl hrow (Cd.bs x.1) rfl (by rw [HSZ.out]; unfold maxLen; omega) (by rw [HSZ.out]; omega) hBs ?_; intro v' w1 hown' hgrow; obtain ⟨ao, l', cap', rfl⟩ := ownsRow_slice hown'; obtain ⟨hv1, hv2, hr2, hk2, hb2⟩ := Boxed_appended' hv (by decide) hrow hBs (Nat.le_refl _) hown' hgrow; have hc1 := hv1.cell; have hf1 := hv1.frozen)
    exact ⟨hk2.from _, hb2, ⟨_, hv2, by rw [flat_snoc]; exact Cd.own_app (l' := x.1) rfl rfl hr2, trivial⟩, hB.trans hb2⟩
  case done =>
    rintro D ys W hD hS ⟨⟨v, hv, hrow, _⟩, hB⟩ hK
    have hc := hv.cell
    have hcv := conv_any hrow
    gi_wp2
    refine ⟨by simp, .inl ⟨_, _, rfl, run_takeDeferred hK, ?_⟩⟩
    exact ⟨_, results_tmp rfl _ _ _, ys, hS, rfl, hB.trans (belowK_b (w := w) (Nat.le_refl _) W D _ _ (by simp at hD; omega) hK rfl rfl)⟩
  case stop =>
    rintro D c pre W _ _ h _
    exact h.elim
end Go.Proofs.Ytmfeeampbmandaa

/-
  slices.Values over texts, and PutText, which joins two of them.
-/
namespace Go.Proofs.Ytmfeeampbmandaa
open Go.RowKit Go.Shelf
set_option linter.unusedSimpArgs false
set_option linter.unusedVariables false

attribute [local go_sem] Oper.semAt_some

/-- what has come when k rounds are over: f 0, .., f (k - 1) -/
def upto {α : Type} (f : Nat → α) (k : Nat) : List α := (List.range k).map f
theorem upto_succ {α : Type} (f : Nat → α) (k : Nat) : upto f (k + 1) = upto f k ++ [f k] := by simp [upto, List.range_succ]
theorem upto_length {α : Type} (f : Nat → α) (k : Nat) : (upto f k).length = k := by simp [upto]

set_option maxRecDepth 100000 in
set_option maxHeartbeats 2000000 in
theorem values1_in (F : Fence) (n : Nat) (h7 : F.fn 58) (hro : F.round = none) (hn : 1 ≤ n) (l Bs n₀ b len cap : Nat) (f : Nat → Piece) (hreach : len ≤ 1000000) (hb : b < n₀) (J Jx : List Piece → World → Prop)
    (hY : ∀ pre x W, J pre W → pre.length < len → YieldAt F (n - 1) Try.prog l #[.string (Cd.bs x.1)] W fun e W' =>
      (e = .returned (.bool true) ∧ J (pre ++ [x]) W' ∧ Below n₀ W W') ∨ (e = .returned (.bool false) ∧ Jx (pre ++ [x]) W'))
    (W : World) (hBs : W.cell? ⟨Bs, 0, none⟩ = some (.slice (some ⟨b, 0, none⟩) len cap)) (hc : ∀ j, j < len → W.cell? ⟨b, j, none⟩ = some (.string (Cd.bs (f j).1))) (h0 : J [] W) :
    CallsIn F n Try.prog 58 #[.func (.yield l) #[] #[], .pointer (some ⟨Bs, 0, none⟩)] W fun e W' => (∃ v, e = .returned v) ∧
      ((∃ ys, ys = upto f len ∧ J ys W') ∨ (∃ pre, True ∧ Jx pre W')) := by
  refine callsIn_of_wp Try.func58 rfl h7 ?_ hro
  simp only [Try.ntmps58, List.size_toArray, List.length_cons, List.length_nil, Nat.reduceAdd, Nat.reduceSub, Array.replicate_succ, Array.replicate_zero, List.push_toArray, List.append_toArray, List.nil_append, List.cons_append]
  gi_wp2
  gi_loopw [7] (fun i wr => ∃ k : Nat, k ≤ len ∧ i = .int .i64 k ∧ J (upto f k) wr ∧ Below n₀ W wr)
    (fun i _ => len - (intOf i).toNat)
  case atStart => exact ⟨0, Nat.zero_le _, rfl, h0, Below.refl _ _⟩
  case round =>
    obtain ⟨k, hk, rfl, hJs, hnx⟩ := hrel
    have hcx : k < len → wr.cell? ⟨b, k, none⟩ = some (.string (Cd.bs (f k).1)) := fun h => (hnx.cell (p := ⟨b, k, none⟩) hb).trans (hc k h)
    by_cases hlt : k < len
    · obtain ⟨fn, tmps, assign, body, hy, hR⟩ := hY _ (f k) wr hJs (by rw [upto_length]; exact hlt)
      have hcx' := hcx hlt
      gi_wp2
      refine hR.mono ?_
      rintro e W3 (⟨rfl, hJ3, hk3⟩ | ⟨rfl, hJx3⟩)
      · gi_wp2
        go_roundw
        case rel => exact ⟨k + 1, by omega, by simp, by rw [upto_succ]; exact hJ3, hnx.trans hk3⟩
        case measure => simp [intOf]; omega
      · gi_wp2
        refine bodyPost_ret (results_none rfl _ _ _) rfl ?_
        exact ⟨⟨_, rfl⟩, .inr ⟨_, trivial, hJx3⟩⟩
    · obtain rfl : k = len := by omega
      gi_wp2
      go_end0
      exact ⟨⟨_, rfl⟩, .inl ⟨_, rfl, hJs⟩⟩

set_option maxHeartbeats 1000000 in
theorem values_in (F : Fence) (n : Nat) (h5 : F.fn 54) (hro : F.round = none) (a : Option Addr) (len cap : Nat) (w : World) :
    CallsIn F n Try.prog 54 #[.slice a len cap] w fun e w' => e = .returned (.func (.func 58) #[] #[.pointer (some ⟨w.heap.size, 0, none⟩)]) ∧ w' = w.alloc (.cells #[.slice a len cap] 93) := by
  refine callsIn_of_wp Try.func54 rfl h5 ?_ hro
  simp only [Try.ntmps54, List.size_toArray, List.length_cons, List.length_nil, Nat.reduceAdd, Nat.reduceSub, Array.replicate_succ, Array.replicate_zero, List.push_toArray, List.append_toArray, List.nil_append, List.cons_append]
  gi_wp2
  go_ret
  exact ⟨rfl, rfl⟩

theorem values_stops (F : Fence) (n : Nat) (h7 : F.fn 58) (hro : F.round = none) (hn : 1 ≤ n) (Bs n₀ b len cap : Nat) (f : Nat → Piece) (hreach : len ≤ 1000000) (w : World) (hBs : Bs < w.heap.size) (hn₀ : n₀ ≤ w.heap.size) (hb : b < n₀)
    (hc : w.cell? ⟨Bs, 0, none⟩ = some (.slice (some ⟨b, 0, none⟩) len cap)) (hI : ∀ j, j < len → w.cell? ⟨b, j, none⟩ = some (.string (Cd.bs (f j).1))) :
    SeqStopsK F n Try.prog 58 #[.pointer (some ⟨Bs, 0, none⟩)] (fun x : Piece => #[Value.string (Cd.bs x.1)]) (Below n₀) (fun ys => ys = upto f len) (fun _ => True) len w := fun l J Jx W hW _ _ hY h0 => by
  have hc' := (hW.cell (p := ⟨Bs, 0, none⟩) hBs).trans hc
  exact values1_in F n h7 hro hn l Bs n₀ b len cap f hreach hb J Jx hY W hc' (fun j hj => (hW.cell (p := ⟨b, j, none⟩) (by show b < _; omega)).trans (hI j hj)) h0

theorem put_join (w1 : World) (p q : Piece) (l : List UInt8) (hq : q.1 = l) :
    Calls Try.prog 53 #[.func (.func 58) #[] #[.pointer (some ⟨w1.heap.size + 1, 0, none⟩)]]
      ((w1.alloc (.cells #[.string (Cd.bs p.1), .string (Cd.bs l)] 9)).alloc (.cells #[.slice (some ⟨w1.heap.size, 0, none⟩) 2 2] 93)) fun e w' =>
      e = .returned (.string (Cd.bs (flat (upto (fun j => if j = 0 then p else q) 2)))) ∧ Below w1.heap.size w1 w' := by
  subst hq
  have hst := values_stops Fence.wide 2 trivial rfl (by omega) (w1.heap.size + 1) (w1.heap.size + 2) w1.heap.size 2 2 (fun j => if j = 0 then p else q) (by omega)
    ((w1.alloc (.cells #[.string (Cd.bs p.1), .string (Cd.bs q.1)] 9)).alloc (.cells #[.slice (some ⟨w1.heap.size, 0, none⟩) 2 2] 93))
    (by simp) (by simp) (by omega) (by go_simp) (by
      intro j hj
      match j, hj with
      | 0, _ => go_simp
      | 1, _ => go_simp)
  have h := join_in Fence.wide 3 trivial rfl (by omega) 58 trivial (enters_of Try.func58 (by kernel_rfl) rfl) #[.pointer (some ⟨w1.heap.size + 1, 0, none⟩)]
    2 (by omega)
    ((w1.alloc (.cells #[.string (Cd.bs p.1), .string (Cd.bs q.1)] 9)).alloc (.cells #[.slice (some ⟨w1.heap.size, 0, none⟩) 2 2] 93)) (by simpa using hst)
  refine (callsIn_wide.1 h).mono ?_
  rintro e w' ⟨ys, rfl, he, hb⟩
  refine ⟨he, ?_⟩
  exact (((Below.refl w1.heap.size w1).alloc (Nat.le_refl _) _).alloc (by simp) _).trans (hb.mono (by simp; omega))

set_option maxRecDepth 100000 in
set_option maxHeartbeats 2000000 in
theorem putTc_any (s : ByteArray) (w : World) (hs : s.size ≤ 1048576) :
    Calls Try.prog 36 #[.string s] w fun e w' => e = .returned (.string (Cd.bs (Cd.putT s.data.toList))) ∧ Below w.heap.size w w' := by
  obtain ⟨l, rfl⟩ : ∃ l, s = Cd.bs l := ⟨s.data.toList, (Lib.mk_data s).symm⟩
  have hl : l.length ≤ 1048576 := hs
  have hU := fun W => putUc_at (l.length : Int) l.length W rfl (by omega)
  have hul := Cd.putU_len10 l.length (by omega)
  have hw : IntKind.u64.wrap (l.length : Int) = l.length := Cd.wrapU_nat (by omega)
  obtain ⟨p, hp⟩ : ∃ p : Piece, p.1 = Cd.putU l.length := ⟨⟨Cd.putU l.length, by omega⟩, rfl⟩
  obtain ⟨q, hq⟩ : ∃ q : Piece, q.1 = l := ⟨⟨l, hl⟩, rfl⟩
  have HE := Lib.hid (show Cd.putT (Cd.bs l).data.toList = flat (upto (fun j => if j = 0 then p else q) 2) by
    simp [upto, List.range, List.range.loop, flat, hp, hq, Cd.putT])
  rw [← hp] at hU
  have HU := Lib.hid hU
  have HQ := Lib.hid hq
  clear hU hp hq hul
  go_enter Try.func36, Try.ntmps36
  go_wp2_with (first
    | (go_at_call 34; refine (HU.out _).mono ?_; rintro e w1 ⟨rfl, hb1⟩)
    | (go_at_call 54; refine (callsIn_wide.1 (values_in Fence.wide 3 trivial rfl _ 2 2 _)).mono ?_; rintro e w' ⟨rfl, rfl⟩)
    | (go_at_call 53; refine (put_join w1 p q l HQ.out).mono ?_; rintro e w3 ⟨rfl, hb3⟩))
  go_ret
  exact ⟨by rw [HE.out]; rfl, hb1.trans (hb3.mono hb1.size)⟩
end Go.Proofs.Ytmfeeampbmandaa

namespace Go.Proofs.Ytmfeeampbmandaa
open Go.RowKit
set_option linter.unusedSimpArgs false
set_option linter.unusedVariables false

set_option maxRecDepth 100000 in
set_option maxHeartbeats 1000000 in
theorem sumr_any (s : ByteArray) (w : World) (hs : s.size ≤ maxLen) :
    Calls Try.prog 43 #[.string s] w fun e w' => e = .returned (.int .u32 (Fr.sum s.data.toList)) ∧ w = w' := by
  unfold maxLen at hs
  go_enter Try.func43, Try.ntmps43
  go_wp2_with fail
  go_loop [3, 4] (fun n i => ∃ k m : Nat, k ≤ s.size ∧ i = .int .i64 k ∧ n = .int .u32 m ∧ m = Fr.run 4294967295 (s.data.toList.take k)) (fun _ i => s.size - (intOf i).toNat)
  case atStart => exact ⟨0, _, Nat.zero_le _, rfl, rfl, rfl⟩
  case round =>
    obtain ⟨k, m, hk, rfl, rfl, hm⟩ := hrel
    have hlt0 : m < 4294967296 := by rw [hm]; exact Fr.run_lt _ (by omega)
    have HM := Lib.hid hm
    have HL := Lib.hid hlt0
    clear hm hlt0
    by_cases hlt : k < s.size
    · have hx := Fr.walk_in HL.out s[k]
      have hw := Fr.wrap32_byte s[k]
      have HT := Lib.hid (Cd.take_s s k hlt)
      go_wp2_with fail
      clear hw
      go_loop [3, 5] (fun n j => ∃ i q : Nat, i ≤ 8 ∧ j = .int .i64 i ∧ n = .int .u32 q ∧ q = Fr.steps i (m ^^^ s[k].toNat)) (fun _ j => 8 - (intOf j).toNat)
      case atStart => exact ⟨0, _, Nat.zero_le _, rfl, by first | rfl | rw [hx], rfl⟩
      case round =>
        obtain ⟨i, q, hi, rfl, rfl, hq⟩ := hrel
        have hlq : q < 4294967296 := by rw [hq]; exact Fr.steps_lt (Fr.xor_lt32 HL.out (by have := s[k].toNat_lt; omega)) _
        have HQ := Lib.hid hq
        have HLQ := Lib.hid hlq
        clear hq hlq hx
        by_cases h8 : i < 8
        · by_cases ho : q % 2 = 1
          · have hob : (((q : Int) % 2) == 1) = true := by simp; omega
            have hs1 := Fr.walk_odd HLQ.out ho
            go_wp2
            go_round
            case rel => exact ⟨i + 1, Fr.step q, by omega, by go_num, by first | rfl | rw [hs1], by rw [HQ.out]; rfl⟩
            case measure => simp [intOf]; omega
          · have hob : (((q : Int) % 2) == 1) = false := by simp; omega
            have HO := Lib.hid ho
            clear ho
            go_wp2
            go_round
            case rel => exact ⟨i + 1, Fr.step q, by omega, by go_num, by rw [← Fr.walk_even HLQ.out HO.out], by rw [HQ.out]; rfl⟩
            case measure => simp [intOf]; omega
        · obtain rfl : i = 8 := by omega
          go_wp2
          go_round
          case rel => exact ⟨k + 1, q, by omega, by go_num, rfl, by rw [HT.out, Fr.run_snoc, ← HM.out]; exact HQ.out⟩
          case measure => simp [intOf]; omega
    · obtain rfl : k = s.size := by omega
      go_wp2
      go_ret
      exact ⟨by rw [Fr.sum, ← Cd.take_all s, ← HM.out, ← Fr.walk_out HL.out]; rfl, rfl⟩

/-- the world of a row of four bytes, written one by one -/
def Row4 (w : World) (g : Nat) (l : List UInt8) : Prop := ∀ j, j < 4 → w.cell? ⟨g, j, none⟩ = some (.int .u8 ((l.getD j 0).toNat : Int)) ∧ w.frozen? ⟨g, j, none⟩ = false
theorem Row4.store {w : World} {g n k : Nat} {x : Value} (h : Row4 w g (Fr.litPart n k)) (hk : k < 4) (hx : x = .int .u8 ((Fr.litByte n k).toNat : Int)) :
    Row4 (w.setCell ⟨g, k, none⟩ x) g (Fr.litPart n (k + 1)) := by
  intro j hj
  rw [World.frozen?_setCell]
  refine ⟨?_, (h j hj).2⟩
  rw [Fr.litPart_get _ _ _ hj]
  by_cases hjk : j = k
  · subst hjk
    rw [World.cell?_setCell_same (h := (h j hj).1), hx, if_pos (by omega)]
  · rw [World.cell?_setCell_other (h := by simp only [ne_eq, Addr.mk.injEq, true_and, and_true]; omega), (h j hj).1, Fr.litPart_get _ _ _ hj]
    by_cases h1 : j < k
    · rw [if_pos h1, if_pos (by omega)]
    · rw [if_neg h1, if_neg (by omega)]
theorem Row4.conv {w : World} {g c : Nat} {l : List UInt8} (h : Row4 w g l) (hl : l.length = 4) : (convert 67 9 (.slice (some ⟨g, 0, none⟩) 4 c)).run Try.prog w = .ok (.string (Cd.bs l)) w := by
  have := run_convert_bytes_back (P := Try.prog) w 67 9 5 ⟨g, 0, none⟩ c l Try.underlying67 Try.underlying5 Try.underlying9 (fun j hj => by
    have := (h j (by omega)).1
    rw [List.getD_eq_getElem?_getD, List.getElem?_eq_getElem hj] at this
    have hp : (⟨g, 0, none⟩ : Addr).add j = ⟨g, j, none⟩ := by unfold Addr.add; split <;> simp_all
    rw [hp]; simpa using this)
  rwa [hl] at this
theorem Row4.new (w : World) (n : Nat) (T : TypeId) : Row4 (w.alloc (.cells #[.int .u8 0, .int .u8 0, .int .u8 0, .int .u8 0] T)) w.heap.size (Fr.litPart n 0) := by
  intro j hj
  rw [Fr.litPart_zero]
  match j, hj with
  | 0, _ => exact ⟨by go_simp, by go_simp⟩
  | 1, _ => exact ⟨by go_simp, by go_simp⟩
  | 2, _ => exact ⟨by go_simp, by go_simp⟩
  | 3, _ => exact ⟨by go_simp, by go_simp⟩

set_option maxRecDepth 100000 in
set_option maxHeartbeats 1000000 in
theorem littler_any (N : Int) (n : Nat) (w : World) (hN : N = n) (h1 : n < 4294967296) :
    Calls Try.prog 42 #[.int .u32 N] w fun e w' => e = .returned (.string (Cd.bs (Fr.lit n))) ∧ Below w.heap.size w w' := by
  have hmk : ∀ w, (Instr.makeSlice 67 (.int .i64 4) (.int .i64 4)).run Try.prog w = .ok (.slice (some ⟨w.heap.size, 0, none⟩) 4 4) (w.alloc (.cells #[.int .u8 0, .int .u8 0, .int .u8 0, .int .u8 0] 5)) := fun _ => by kernel_rfl
  subst hN
  have HN := Lib.hid h1
  clear h1
  go_enter Try.func42, Try.ntmps42
  go_wp2_with fail
  go_loopw [0, 4] (fun u i wr => ∃ (k m : Nat), k ≤ 4 ∧ i = .int .i64 k ∧ u = .int .u32 m ∧ m = n / 256 ^ k ∧ Row4 wr w.heap.size (Fr.litPart n k) ∧ Below w.heap.size w wr) (fun _ i _ => 4 - (intOf i).toNat)
  case atStart => exact ⟨0, n, Nat.zero_le _, rfl, rfl, by simp, Row4.new _ _ _, (Below.refl _ _).alloc (Nat.le_refl _) _⟩
  case round =>
    obtain ⟨k, m, hk, rfl, rfl, hm, hr, hb⟩ := hrel
    have HM := Lib.hid hm
    clear hm
    by_cases hk4 : k < 4
    · have hc := (hr k hk4).1
      have hf := (hr k hk4).2
      have HR := Lib.hid hr
      clear hr
      go_wp2
      go_roundw
      case rel => exact ⟨k + 1, m / 256, by omega, by go_num, by rw [Fr.lit_wrap n k m HN.out HM.out], Fr.lit_down n k m HM.out, HR.out.store hk4 (Fr.litByte_val n k m HM.out), hb.setCell (p := ⟨w.heap.size, k, none⟩) (Nat.le_refl _) _⟩
      case measure => simp [intOf]; omega
    · obtain rfl : k = 4 := by omega
      have hcv := hr.conv (c := 4) (Fr.litPart_len _ _)
      go_wp2
      go_ret
      exact ⟨by rw [Fr.litPart_done]; rfl, hb⟩
end Go.Proofs.Ytmfeeampbmandaa

namespace Go.Proofs.Ytmfeeampbmandaa
open Go.RowKit
set_option linter.unusedSimpArgs false
set_option linter.unusedVariables false

/-- string(b) of one byte that lies in a cell -/
theorem conv_cell (W : World) (g : Nat) (x : Int) (c : UInt8) (hx : x = (c.toNat : Int)) (h : W.cell? ⟨g, 0, none⟩ = some (.int .u8 x)) :
    (convert 67 9 (.slice (some ⟨g, 0, none⟩) 1 1)).run Try.prog W = .ok (.string (Cd.bs [c])) W := by
  have := run_convert_bytes_back (P := Try.prog) W 67 9 5 ⟨g, 0, none⟩ 1 [c] Try.underlying67 Try.underlying5 Try.underlying9 (fun j hj => by
    simp at hj; subst hj
    rw [show (⟨g, 0, none⟩ : Addr).add 0 = ⟨g, 0, none⟩ from by simp [Addr.add], h, hx]; rfl)
  simpa using this

theorem bcell {W w1 : World} (hb : Below W.heap.size W w1) : (∀ b o, b < W.heap.size → w1.cell? ⟨b, o, none⟩ = W.cell? ⟨b, o, none⟩) ∧ (∀ b o, b < W.heap.size → w1.frozen? ⟨b, o, none⟩ = W.frozen? ⟨b, o, none⟩) :=
  ⟨fun b o h => hb.cell (p := ⟨b, o, none⟩) h, fun b o h => hb.frozen (p := ⟨b, o, none⟩) h⟩

set_option maxRecDepth 100000 in
set_option maxHeartbeats 1000000 in
theorem framePutr_any (K : Int) (c : UInt8) (hK : K = (c.toNat : Int)) (l : List UInt8) (w : World) (hs : l.length ≤ 140737488351232) :
    Calls Try.prog 25 #[.agg #[.int .u8 K, .string (Cd.bs l)]] w fun e w' => e = .returned (.tuple #[.string (Cd.bs (Fr.put c l).1), .int .i64 (Fr.put c l).2]) ∧ Below w.heap.size w w' := by
  have hsz : (Cd.bs l).size = l.length := rfl
  have HSZ := Lib.hid hsz
  clear hsz
  by_cases h0 : c.toNat = 0
  · have hb : (K == 0) = true := by subst hK; simp [h0]
    rw [Fr.put_zero h0]
    clear hK h0
    go_enter Try.func25, Try.ntmps25
    go_wp2
    go_ret2
    exact ⟨rfl, (Below.refl _ _).alloc (Nat.le_refl _) _⟩
  · have hb : (K == 0) = false := by subst hK; simp; omega
    by_cases hl : l.length ≤ 262144
    · rw [Fr.put_ok h0 hl]
      have HK := Lib.hid hK
      have hcv := fun W g h => conv_cell W g K c hK h
      clear hK h0
      have hT := fun W => putTr_any (Cd.bs l) W (by rw [HSZ.out]; omega)
      have HT := Lib.hid hT
      clear hT
      have hlen : (Cd.putT l).length ≤ 262154 := by have := Cd.putU_len10 l.length (by omega); rw [Cd.putT, List.length_append]; omega
      go_enter Try.func25, Try.ntmps25
      go_wp2_with fail
      go_cut [4] (fun r wx => r = .string (Cd.bs (c :: Cd.putT l)) ∧ Below w.heap.size w wx)
      case first =>
        go_region_with (go_at_call 41; refine (HT.out _).mono ?_; rintro e w1 ⟨rfl, hb1⟩; obtain ⟨hkc, hkf⟩ := bcell hb1; have hsz1 := hb1.size; simp at hsz1)
        all_goals (try go_wp2_with fail)
        all_goals go_meet
        all_goals refine ⟨by rw [ByteArray.mk_append_mk]; rfl, ?_⟩
        all_goals repeat (first
          | exact Below.refl _ _
          | (refine Below.trans ?_ (hb1.mono ?_))
          | apply Below.drew
          | (refine Below.alloc ?_ ?_ _)
          | exact Nat.le_refl _
          | omega
          | (focus (simp; done))
          | (focus (simp; omega)))
      case rest =>
        obtain ⟨rfl, hbc⟩ := hcut
        have hS := fun W => sumr_any (Cd.bs (c :: Cd.putT l)) W (by show (c :: Cd.putT l).length ≤ maxLen; unfold maxLen; rw [List.length_cons]; omega)
        have HS := Lib.hid hS
        have HL := Lib.hid (fun W => littler_any (Fr.sum (c :: Cd.putT l) : Int) (Fr.sum (c :: Cd.putT l)) W rfl (Fr.sum_lt _))
        clear hS hcv
        have hll : (Fr.lit (Fr.sum (c :: Cd.putT l))).length ≤ 4 := by rw [Fr.lit_len]; omega
        have hsl : (Cd.bs (c :: Cd.putT l)).size ≤ 262155 := by show (c :: Cd.putT l).length ≤ 262155; rw [List.length_cons]; omega
        go_wp2_with (first
          | (go_at_call 43; refine (HS.out _).mono ?_; rintro e w' ⟨rfl, rfl⟩)
          | (go_at_call 42; refine (HL.out _).mono ?_; rintro e w3 ⟨rfl, hb3⟩))
        go_ret2
        exact ⟨by rw [ByteArray.mk_append_mk]; rfl, hbc.trans (hb3.mono hbc.size)⟩
    · have hlb : (262144 : Int) < l.length := by omega
      rw [Fr.put_long (by omega)]
      clear hK h0
      go_enter Try.func25, Try.ntmps25
      go_wp2
      go_ret2
      exact ⟨rfl, (Below.refl _ _).alloc (Nat.le_refl _) _⟩
end Go.Proofs.Ytmfeeampbmandaa

/-
  The document's answers on batches (tapestryref05): May, Load, Check, Right, Encode, Last.
-/
namespace Go.Proofs.Ytmfeeampbmandaa
open Go.RowKit
set_option linter.unusedSimpArgs false
set_option linter.unusedVariables false
namespace Wa
def u64In (x : Int) : Prop := 0 ≤ x ∧ x < 18446744073709551616
/-- bounds of a put that came in, or was read -/
def PutIn (p : Pt) : Prop := p.1.length ≤ 1048576 ∧ p.2.1.length ≤ 1048576
/-- puts in a row, in blocks below B -/
def Puts (B : Nat) (W : World) (v : Value) (L : List Pt) : Prop :=
  ∃ (a : Option Addr) (cap b off : Nat), v = .slice a L.length cap ∧ (0 < L.length → a = some ⟨b, off, none⟩ ∧ b < B) ∧ ∀ j (h : j < L.length),
    W.cell? ⟨b, off + j * 3, none⟩ = some (.string (Cd.bs L[j].1)) ∧ W.cell? ⟨b, off + j * 3 + 1, none⟩ = some (.string (Cd.bs L[j].2.1)) ∧ W.cell? ⟨b, off + j * 3 + 2, none⟩ = some (.bool L[j].2.2.1)
theorem Puts.below {B : Nat} {W W' : World} {v : Value} {L : List Pt} (h : Puts B W v L) (hb : Below B W W') : Puts B W' v L := by
  obtain ⟨a, cap, b, off, h1, h2, h3⟩ := h
  refine ⟨a, cap, b, off, h1, h2, fun j hj => ?_⟩
  have hl := (h2 (by omega)).2
  obtain ⟨g1, g2, g3⟩ := h3 j hj
  exact ⟨(hb.cell (p := ⟨b, off + j * 3, none⟩) hl).trans g1, (hb.cell (p := ⟨b, off + j * 3 + 1, none⟩) hl).trans g2, (hb.cell (p := ⟨b, off + j * 3 + 2, none⟩) hl).trans g3⟩
theorem Puts.grow {B B' : Nat} {W W' : World} {v : Value} {L : List Pt} (h : Puts B W v L) (hb : Below B W W') (hB : B ≤ B') : Puts B' W' v L := by
  obtain ⟨a, cap, b, off, h1, h2, h3⟩ := h.below hb
  exact ⟨a, cap, b, off, h1, fun h => ⟨(h2 h).1, Nat.lt_of_lt_of_le (h2 h).2 hB⟩, h3⟩
theorem rd_put {B : Nat} {W : World} {cs : List Value} {x : Pt} (h : Gn.RdC B W putT cs x) : cs = [.string (Cd.bs x.1), .string (Cd.bs x.2.1), .bool x.2.2.1] := by
  obtain ⟨c1, d1, rfl, _, ⟨rfl, w1⟩, c2, d2, rfl, _, ⟨rfl, w2⟩, c3, d3, rfl, _, rfl, rfl⟩ := h
  rfl
theorem puts_of_rd {B : Nat} {W : World} {cs : List Value} {L : List Pt} (h : Gn.RdC B W (.slice putT) cs L) : ∃ v, cs = [v] ∧ Puts B W v L := by
  obtain ⟨a, cap, b, off, h1, _, _, h2, h3⟩ := h
  refine ⟨_, h1, a, cap, b, off, rfl, h2, fun j hj => ?_⟩
  obtain ⟨cs', g1, g2, g3⟩ := h3 j hj
  rw [rd_put g3] at g2
  have k0 := g2 0 (by decide)
  have k1 := g2 1 (by decide)
  have k2 := g2 2 (by decide)
  exact ⟨k0, k1, k2⟩

set_option maxRecDepth 100000 in
set_option maxHeartbeats 2000000 in
theorem mayR5_any (k v : List UInt8) (d : Bool) (w : World) (hk : k.length ≤ 1048576) (hv : v.length ≤ 1048576) :
    Calls Try.prog 23 #[.agg #[.string (Cd.bs k), .string (Cd.bs v), .bool d]] w fun e w' => e = .returned (.bool (mayB (k, v, d, ()))) ∧ Below w.heap.size w w' := by
  have hsk : (Cd.bs k).size = k.length := rfl
  have hsv : (Cd.bs v).size = v.length := rfl
  have hvl : (Cd.bs v).toList = v := by rw [ByteArray.toList_mk]
  by_cases h1 : 1 ≤ k.length
  · have h1i : (1 : Int) ≤ (k.length : Int) := by omega
    by_cases h2 : k.length ≤ 96
    · have h2i : (k.length : Int) ≤ 96 := by omega
      by_cases h3 : v.length ≤ 16384
      · have h3i : (v.length : Int) ≤ 16384 := by omega
        cases d
        · have e : mayB (k, v, false, ()) = true := by simp [mayB, h1, h2, h3]
          rw [e]
          clear e h1 h2 h3
          go_enter Try.func23, Try.ntmps23
          go_wp2_with fail
          go_ret
          exact ⟨rfl, (Below.refl _ _).alloc (Nat.le_refl _) _⟩
        · by_cases h4 : v = []
          · subst h4
            have e : mayB (k, [], true, ()) = true := by simp [mayB, h1, h2]
            rw [e]
            clear e h1 h2 h3
            go_enter Try.func23, Try.ntmps23
            go_wp2_with fail
            go_ret
            exact ⟨rfl, (Below.refl _ _).alloc (Nat.le_refl _) _⟩
          · have e : mayB (k, v, true, ()) = false := by simp [mayB, h4]
            have h5 : (v == []) = false := by simpa using h4
            have h6 : v.isEmpty = false := by simpa using h4
            rw [e]
            clear e h1 h2 h3 h4
            go_enter Try.func23, Try.ntmps23
            go_wp2_with fail
            go_ret
            exact ⟨rfl, (Below.refl _ _).alloc (Nat.le_refl _) _⟩
      · have e : mayB (k, v, d, ()) = false := by simp [mayB, h3]
        have h3i : ¬ (v.length : Int) ≤ 16384 := by omega
        rw [e]
        clear e h1 h2 h3
        go_enter Try.func23, Try.ntmps23
        go_wp2_with fail
        go_ret
        exact ⟨rfl, (Below.refl _ _).alloc (Nat.le_refl _) _⟩
    · have e : mayB (k, v, d, ()) = false := by simp [mayB, h2]
      have h2i : ¬ (k.length : Int) ≤ 96 := by omega
      rw [e]
      clear e h1 h2
      go_enter Try.func23, Try.ntmps23
      go_wp2_with fail
      go_ret
      exact ⟨rfl, (Below.refl _ _).alloc (Nat.le_refl _) _⟩
  · have e : mayB (k, v, d, ()) = false := by simp [mayB]; intro h; exact absurd (by omega) h1
    have h1i : ¬ (1 : Int) ≤ (k.length : Int) := by omega
    rw [e]
    clear e h1
    go_enter Try.func23, Try.ntmps23
    go_wp2_with fail
    go_ret
    exact ⟨rfl, (Below.refl _ _).alloc (Nat.le_refl _) _⟩

theorem str_app3 (a b c : List UInt8) : Value.string (Cd.bs a ++ Cd.bs b ++ Cd.bs c) = .string (Cd.bs (a ++ b ++ c)) := by rw [ByteArray.mk_append_mk, ByteArray.mk_append_mk]
theorem str_app4 (a b c d : List UInt8) : Value.string (Cd.bs a ++ Cd.bs b ++ Cd.bs c ++ Cd.bs d) = .string (Cd.bs (a ++ b ++ c ++ d)) := by rw [ByteArray.mk_append_mk, ByteArray.mk_append_mk, ByteArray.mk_append_mk]
theorem putB_len {p : Pt} (h : mayB p = true) : (putB p).length ≤ 16600 := by
  obtain ⟨k, v, d, _⟩ := p
  simp [mayB] at h
  have h1 := Cd.putU_len10 k.length (by omega)
  have h2 := Cd.putU_len10 v.length (by omega)
  unfold putB
  split <;> simp [Cd.putT] <;> omega
theorem puts_len : ∀ (L : List Pt), (∀ p ∈ L, mayB p = true) → (L.flatMap putB).length ≤ 16600 * L.length
  | [], _ => by simp
  | p :: r, h => by
    rw [List.flatMap_cons, List.length_append, List.length_cons]
    have := putB_len (h p (List.mem_cons_self ..))
    have := puts_len r (fun q hq => h q (List.mem_cons_of_mem _ hq))
    omega

set_option maxRecDepth 100000 in
set_option maxHeartbeats 4000000 in
theorem loadR_any (S : Int) (seq : Nat) (hS : S = seq) (v : Value) (L : List Pt) (w : World) (hs : seq < 18446744073709551616) (hP : Puts w.heap.size w v L) (hm : ∀ p ∈ L, mayB p = true) (hL : L.length ≤ 256) :
    Calls Try.prog 24 #[.int .u64 S, v] w fun e w' => e = .returned (.string (Cd.bs (load seq L))) ∧ Below w.heap.size w w' := by
  subst hS
  obtain ⟨a, cap, fb, fo, rfl, ha, hcells⟩ := hP
  have HC := Lib.hid hcells
  have HM := Lib.hid hm
  have HP1 := Lib.hid (fun W => putUr_at (seq : Int) seq W rfl hs)
  have HP2 := Lib.hid (fun W => putUr_at (L.length : Int) L.length W rfl (by omega))
  have hpl1 := Cd.putU_len10 seq (by omega)
  have hpl2 := Cd.putU_len10 L.length (by omega)
  have hwL : IntKind.u64.wrap (L.length : Int) = (L.length : Int) := Cd.wrapU_nat (by omega)
  obtain ⟨HD, hHD⟩ : ∃ HD, HD = Cd.putU seq ++ Cd.putU L.length := ⟨_, rfl⟩
  have hhd : HD.length ≤ 20 := by rw [hHD, List.length_append]; omega
  have HHD := Lib.hid hHD
  clear hcells hm hHD
  go_enter Try.func24, Try.ntmps24
  go_wp2_with (first
    | (go_at_call 40; (with_reducible refine (HP1.out _).mono ?_); rintro e w1 ⟨rfl, hb1⟩)
    | (go_at_call 40; (with_reducible refine (HP2.out _).mono ?_); rintro e w2 ⟨rfl, hb2⟩; have hB2 := hb1.trans (hb2.mono hb1.size)))
  clear hwL
  go_loopw [5, 6] (fun s i wr => ∃ q : Nat, q ≤ L.length ∧ i = .int .i64 (q : Int) ∧ s = .string (Cd.bs (HD ++ (L.take q).flatMap putB)) ∧ Below w.heap.size w wr) (fun _ i _ => L.length - (intOf i).toNat)
  case atStart => exact ⟨0, Nat.zero_le _, rfl, by rw [HHD.out, ByteArray.mk_append_mk]; simp, hB2⟩
  case round =>
    obtain ⟨q, hq, rfl, rfl, hB⟩ := hrel
    have hbs := hB.size
    by_cases hlt : q < L.length
    · obtain ⟨rfl, hfb⟩ := ha (by omega)
      obtain ⟨d0, d1, d2⟩ := HC.out q hlt
      have e0 := (hB.cell (p := ⟨fb, fo + q * 3, none⟩) hfb).trans d0
      have e2 := (hB.cell (p := ⟨fb, fo + q * 3 + 2, none⟩) hfb).trans d2
      have E1 := Lib.hid (fun W (h : Below w.heap.size w W) => (h.cell (p := ⟨fb, fo + q * 3 + 1, none⟩) hfb).trans d1)
      have E2 := Lib.hid (fun W (h : Below w.heap.size w W) => (h.cell (p := ⟨fb, fo + q * 3 + 2, none⟩) hfb).trans d2)
      have hmq := HM.out L[q] (List.getElem_mem hlt)
      have hsl : (HD ++ (L.take q).flatMap putB).length ≤ 4300000 := by
        rw [List.length_append]
        have := puts_len (L.take q) (fun p hp => HM.out p (List.mem_of_mem_take hp))
        have : (L.take q).length ≤ 256 := by simp; omega
        omega
      have hts : HD ++ (L.take (q + 1)).flatMap putB = (HD ++ (L.take q).flatMap putB) ++ putB L[q] := by
        rw [List.take_succ_eq_append_getElem hlt, List.flatMap_append, List.append_assoc]; simp
      have HTS := Lib.hid hts
      have hi1 : (0 : Int) ≤ (q : Int) ∧ (q : Int) < (L.length : Int) := by omega
      clear hts d0 d1 d2
      generalize L[q] = p at *
      obtain ⟨k, vv, dl, _⟩ := p
      simp only [mayB, Bool.and_eq_true, decide_eq_true_eq] at hmq
      have hk1 : k.length ≤ 96 := hmq.1.1.2
      have hv1 : vv.length ≤ 16384 := hmq.1.2
      have HK := Lib.hid (fun W => show Calls Try.prog 41 #[.string (Cd.bs k)] W fun e w' => e = .returned (.string (Cd.bs (Cd.putT k))) ∧ Below W.heap.size W w' from putTr_any (Cd.bs k) W (by show k.length ≤ _; omega))
      have HV := Lib.hid (fun W => show Calls Try.prog 41 #[.string (Cd.bs vv)] W fun e w' => e = .returned (.string (Cd.bs (Cd.putT vv))) ∧ Below W.heap.size W w' from putTr_any (Cd.bs vv) W (by show vv.length ≤ _; omega))
      have lk : (Cd.putT k).length ≤ 110 := by have := Cd.putU_len10 k.length (by omega); unfold Cd.putT; rw [List.length_append]; omega
      have lv : (Cd.putT vv).length ≤ 16400 := by have := Cd.putU_len10 vv.length (by omega); unfold Cd.putT; rw [List.length_append]; omega
      have HPB : Hid (putB (k, vv, dl, ()) = if dl = true then 1 :: Cd.putT k else 0 :: (Cd.putT k ++ Cd.putT vv)) := rfl
      simp only at e0 e2 E1 E2
      clear hmq
      generalize HD ++ (L.take q).flatMap putB = S1 at *
      cases dl with
      | true =>
        have HF := Lib.hid (show HD ++ (L.take (q + 1)).flatMap putB = S1 ++ [1] ++ Cd.putT k by rw [HTS.out, HPB.out, if_pos rfl]; simp)
        generalize Cd.putT k = tk at *
        go_wp2_with (go_at_call 41; (with_reducible refine (HK.out _).mono ?_); rintro e w3 ⟨rfl, hb3⟩; have hB3 := hB.trans (hb3.mono hbs); have e3 := E2.out w3 hB3)
        go_roundw
        case rel => exact ⟨q + 1, by omega, by go_num, by rw [HF.out]; exact str_app3 S1 [1] tk, hB3⟩
        case measure => simp [intOf]; omega
      | false =>
        have HF := Lib.hid (show HD ++ (L.take (q + 1)).flatMap putB = S1 ++ [0] ++ Cd.putT k ++ Cd.putT vv by rw [HTS.out, HPB.out, if_neg (by simp)]; simp)
        generalize Cd.putT k = tk at *
        generalize Cd.putT vv = tv at *
        go_wp2_with (first
          | (go_at_call 41; (with_reducible refine (HK.out _).mono ?_); rintro e w3 ⟨rfl, hb3⟩; have hB3 := hB.trans (hb3.mono hbs); have e3 := E2.out w3 hB3; have e4 := E1.out w3 hB3)
          | (go_at_call 41; (with_reducible refine (HV.out _).mono ?_); rintro e w4 ⟨rfl, hb4⟩))
        go_roundw
        case rel => exact ⟨q + 1, by omega, by go_num, by rw [HF.out]; exact str_app4 S1 [0] tk tv, hB3.trans (hb4.mono hB3.size)⟩
        case measure => simp [intOf]; omega
    · obtain rfl : q = L.length := by omega
      have HE := Lib.hid (show HD ++ (L.take L.length).flatMap putB = load seq L by rw [List.take_length, HHD.out]; rfl)
      go_wp2_with fail
      go_ret
      exact ⟨by rw [← HE.out]; rfl, hB⟩
end Wa
end Go.Proofs.Ytmfeeampbmandaa

/-
  The document's answers on batches (tapestryref05): Check, Right, Encode, Last.
-/
namespace Go.Proofs.Ytmfeeampbmandaa
open Go.RowKit
set_option linter.unusedSimpArgs false
set_option linter.unusedVariables false
namespace Wa
theorem check_long {L : List Pt} (h : ¬ L.length ≤ 256) : check L = 1 := if_neg (fun x => h x.1)
theorem check_bad {L : List Pt} {p : Pt} (hp : p ∈ L) (h : mayB p = false) : check L = 1 := if_neg (fun x => by have := x.2.1 p hp; rw [h] at this; cases this)
theorem check_load {L : List Pt} (h1 : L.length ≤ 256) (h2 : ∀ p ∈ L, mayB p = true) : check L = if (load MaxSeq L).length ≤ 262144 then 0 else 1 := by
  unfold check
  by_cases h : (load MaxSeq L).length ≤ 262144
  · rw [if_pos ⟨h1, h2, h⟩, if_pos h]
  · rw [if_neg (fun x => h x.2.2), if_neg h]
theorem load_len {s : Nat} {L : List Pt} (hs : s < 18446744073709551616) (h1 : L.length ≤ 256) (h2 : ∀ p ∈ L, mayB p = true) : (load s L).length ≤ 4300000 := by
  unfold load
  rw [List.length_append, List.length_append]
  have := puts_len L h2
  have := Cd.putU_len10 s (by omega)
  have := Cd.putU_len10 L.length (by omega)
  omega

set_option maxRecDepth 100000 in
set_option maxHeartbeats 4000000 in
theorem checkR_any (v : Value) (L : List Pt) (w : World) (hP : Puts w.heap.size w v L) (hm : ∀ p ∈ L, PutIn p) (hL : L.length ≤ 1048576) :
    Calls Try.prog 9 #[v] w fun e w' => e = .returned (.int .i64 (check L : Nat)) ∧ Below w.heap.size w w' := by
  have HPP := Lib.hid hP
  obtain ⟨a, cap, fb, fo, rfl, ha, hcells⟩ := hP
  have HC := Lib.hid hcells
  clear hcells
  by_cases h1 : L.length ≤ 256
  · have h1i : ¬ (256 : Int) < (L.length : Int) := by omega
    go_enter Try.func9, Try.ntmps9
    go_wp2_with fail
    go_loopw [3] (fun i wr => ∃ q : Nat, q ≤ L.length ∧ i = .int .i64 (q : Int) ∧ Hid (∀ p ∈ L.take q, mayB p = true) ∧ Below w.heap.size w wr) (fun i _ => L.length - (intOf i).toNat)
    case atStart => exact ⟨0, Nat.zero_le _, rfl, fun p hp => by simp at hp, Below.refl _ _⟩
    case round =>
      obtain ⟨q, hq, rfl, hall, hB⟩ := hrel
      have hbs := hB.size
      by_cases hlt : q < L.length
      · obtain ⟨rfl, hfb⟩ := ha (by omega)
        obtain ⟨d0, d1, d2⟩ := HC.out q hlt
        have e0 := (hB.cell (p := ⟨fb, fo + q * 3, none⟩) hfb).trans d0
        have e1 := (hB.cell (p := ⟨fb, fo + q * 3 + 1, none⟩) hfb).trans d1
        have e2 := (hB.cell (p := ⟨fb, fo + q * 3 + 2, none⟩) hfb).trans d2
        have hi1 : (0 : Int) ≤ (q : Int) ∧ (q : Int) < (L.length : Int) := by omega
        have hpi := hm L[q] (List.getElem_mem hlt)
        have hmem : L[q] ∈ L := List.getElem_mem hlt
        have hall2 : mayB L[q] = true → ∀ p ∈ L.take (q + 1), mayB p = true := fun h p hp => by
          rw [List.take_succ_eq_append_getElem hlt] at hp
          rcases List.mem_append.1 hp with hp | hp
          · exact hall.out p hp
          · simp at hp; subst hp; exact h
        have HA2 := Lib.hid hall2
        have HBD := Lib.hid (fun h => check_bad hmem h)
        clear d0 d1 d2 hall2 hmem hall
        generalize L[q] = p at *
        obtain ⟨k, vv, dl, _⟩ := p
        have HMY := Lib.hid (fun W => mayR5_any k vv dl W hpi.1 hpi.2)
        simp only at e0 e1 e2
        clear hpi
        cases hmy : mayB (k, vv, dl, ()) with
        | true =>
          rw [hmy] at HMY
          have HA3 := Lib.hid (HA2.out hmy)
          clear hmy
          go_wp2_with (go_at_call 23; (with_reducible refine (HMY.out _).mono ?_); rintro e w3 ⟨rfl, hb3⟩)
          go_roundw
          case rel => exact ⟨q + 1, by omega, by go_num, HA3, hB.trans (hb3.mono hbs)⟩
          case measure => simp [intOf]; omega
        | false =>
          rw [hmy] at HMY
          have HE := Lib.hid (HBD.out hmy)
          clear hmy
          go_wp2_with (go_at_call 23; (with_reducible refine (HMY.out _).mono ?_); rintro e w3 ⟨rfl, hb3⟩)
          go_ret
          exact ⟨by rw [HE.out]; rfl, hB.trans (hb3.mono hbs)⟩
      · obtain rfl : q = L.length := by omega
        have hm2 : ∀ p ∈ L, mayB p = true := by have := hall.out; rwa [List.take_length] at this
        have HCK := Lib.hid (check_load h1 hm2)
        have HLD := Lib.hid (fun W (h : Below w.heap.size w W) => loadR_any 1125899906842624 MaxSeq rfl (.slice a L.length cap) L W (by decide) (HPP.out.grow h h.size) hm2 h1)
        have hll := load_len (s := MaxSeq) (by decide) h1 hm2
        generalize load MaxSeq L = ld at *
        have hsz : (Cd.bs ld).size = ld.length := rfl
        clear hall hm2
        by_cases h2 : ld.length ≤ 262144
        · have h2i : ¬ (262144 : Int) < (ld.length : Int) := by omega
          have HE := Lib.hid (HCK.out.trans (if_pos h2))
          clear h2
          go_wp2_with (go_at_call 24; (with_reducible refine (HLD.out _ hB).mono ?_); rintro e w3 ⟨rfl, hb3⟩)
          go_ret
          exact ⟨by rw [HE.out]; rfl, hB.trans (hb3.mono hbs)⟩
        · have h2i : (262144 : Int) < (ld.length : Int) := by omega
          have HE := Lib.hid (HCK.out.trans (if_neg h2))
          clear h2
          go_wp2_with (go_at_call 24; (with_reducible refine (HLD.out _ hB).mono ?_); rintro e w3 ⟨rfl, hb3⟩)
          go_ret
          exact ⟨by rw [HE.out]; rfl, hB.trans (hb3.mono hbs)⟩
  · have h1i : (256 : Int) < (L.length : Int) := by omega
    have HE := Lib.hid (check_long h1)
    clear h1
    go_enter Try.func9, Try.ntmps9
    go_wp2_with fail
    go_ret
    exact ⟨by rw [HE.out]; rfl, Below.refl _ _⟩

/-- bounds of a batch that came in, or was read -/
structure BatchIn (b : Bt) : Prop where
  seq : u64In b.1
  puts : ∀ p ∈ b.2.1, PutIn p
  many : b.2.1.length ≤ 1048576
def rightB (b : Bt) : Bool := decide (Right b)

set_option maxRecDepth 100000 in
set_option maxHeartbeats 4000000 in
theorem rightR_any (s : Int) (L : List Pt) (v : Value) (w : World) (hP : Puts w.heap.size w v L) (hb : BatchIn (s, L, ())) :
    Calls Try.prog 17 #[.agg #[.int .u64 s, v]] w fun e w' => e = .returned (.bool (rightB (s, L, ()))) ∧ Below w.heap.size w w' := by
  have hW : Below w.heap.size w (w.alloc (.cells #[.int .u64 s, v] 25)) := (Below.refl _ _).alloc (Nat.le_refl _) _
  have bx := Ob.Obj.new w 25 [.int .u64 s, v]
  have HCK := Lib.hid (checkR_any v L _ (hP.grow hW hW.size) hb.puts hb.many)
  have hmany := hb.many
  obtain ⟨hs1, hs2⟩ := hb.seq
  simp only at hmany hs1 hs2
  have hR : rightB (s, L, ()) = decide (check L = 0 ∧ 0 < L.length ∧ 1 ≤ s ∧ s ≤ 1125899906842624 ∧ s + L.length - 1 ≤ 1125899906842624) := rfl
  have hck : check L = 0 ∨ check L = 1 := by unfold check; split <;> simp
  have hc256 : check L = 0 → L.length ≤ 256 := fun h => (check_ok h).1
  obtain ⟨a, cap, fb, fo, rfl, ha, hcells⟩ := hP
  clear hcells hb ha
  generalize check L = c at *
  rcases hck with rfl | rfl
  · have hc := hc256 rfl
    clear hc256
    by_cases h1 : 0 < L.length
    · have h1i : (0 : Int) < (L.length : Int) := by omega
      by_cases h2 : 1 ≤ s
      · by_cases h3 : s ≤ 1125899906842624
        · have hw1 : IntKind.u64.wrap (L.length : Int) = (L.length : Int) := Cd.wrapU_nat (by omega)
          by_cases h4 : s + L.length - 1 ≤ 1125899906842624
          · have HE := Lib.hid (hR.trans (decide_eq_true ⟨rfl, h1, h2, h3, h4⟩))
            clear hR h1
            go_enter Try.func17, Try.ntmps17
            go_wp2_with (go_at_call 9; (with_reducible refine HCK.out.mono ?_); rintro e w1 ⟨rfl, hb1⟩; have bx1 := bx.below hb1; have c0 := bx1.cell 0; have c1 := bx1.cell 1; simp at c0 c1)
            go_ret
            exact ⟨by rw [HE.out]; rfl, hW.trans (hb1.mono (by simp))⟩
          · have HE := Lib.hid (hR.trans (decide_eq_false (fun h => h4 h.2.2.2.2)))
            have h4d : decide (s + (L.length : Int) - 1 ≤ 1125899906842624) = false := decide_eq_false h4
            have H4 := Lib.hid h4d
            clear hR h1
            go_enter Try.func17, Try.ntmps17
            go_wp2_with (go_at_call 9; (with_reducible refine HCK.out.mono ?_); rintro e w1 ⟨rfl, hb1⟩; have bx1 := bx.below hb1; have c0 := bx1.cell 0; have c1 := bx1.cell 1; simp at c0 c1)
            go_ret
            exact ⟨by rw [HE.out, ← H4.out]; first | rfl | (rw [H4.out]; rfl), hW.trans (hb1.mono (by simp))⟩
        · have HE := Lib.hid (hR.trans (decide_eq_false (fun h => h3 h.2.2.2.1)))
          clear hR h1
          go_enter Try.func17, Try.ntmps17
          go_wp2_with (go_at_call 9; (with_reducible refine HCK.out.mono ?_); rintro e w1 ⟨rfl, hb1⟩; have bx1 := bx.below hb1; have c0 := bx1.cell 0; have c1 := bx1.cell 1; simp at c0 c1)
          go_ret
          exact ⟨by rw [HE.out]; rfl, hW.trans (hb1.mono (by simp))⟩
      · have HE := Lib.hid (hR.trans (decide_eq_false (fun h => h2 h.2.2.1)))
        clear hR h1
        go_enter Try.func17, Try.ntmps17
        go_wp2_with (go_at_call 9; (with_reducible refine HCK.out.mono ?_); rintro e w1 ⟨rfl, hb1⟩; have bx1 := bx.below hb1; have c0 := bx1.cell 0; have c1 := bx1.cell 1; simp at c0 c1)
        go_ret
        exact ⟨by rw [HE.out]; rfl, hW.trans (hb1.mono (by simp))⟩
    · have h1i : ¬ (0 : Int) < (L.length : Int) := by omega
      have HE := Lib.hid (hR.trans (decide_eq_false (fun h => h1 h.2.1)))
      clear hR
      go_enter Try.func17, Try.ntmps17
      go_wp2_with (go_at_call 9; (with_reducible refine HCK.out.mono ?_); rintro e w1 ⟨rfl, hb1⟩; have bx1 := bx.below hb1; have c0 := bx1.cell 0; have c1 := bx1.cell 1; simp at c0 c1)
      go_ret
      exact ⟨by rw [HE.out]; rfl, hW.trans (hb1.mono (by simp))⟩
  · have HE := Lib.hid (hR.trans (decide_eq_false (fun h => by have := h.1; omega)))
    clear hR hc256
    go_enter Try.func17, Try.ntmps17
    go_wp2_with (go_at_call 9; (with_reducible refine HCK.out.mono ?_); rintro e w1 ⟨rfl, hb1⟩; have bx1 := bx.below hb1; have c0 := bx1.cell 0; have c1 := bx1.cell 1; simp at c0 c1)
    go_ret
    exact ⟨by rw [HE.out]; rfl, hW.trans (hb1.mono (by simp))⟩

theorem right_of {b : Bt} (h : rightB b = true) : Right b := of_decide_eq_true h

set_option maxRecDepth 100000 in
set_option maxHeartbeats 4000000 in
theorem encodeR5_any (s : Int) (L : List Pt) (v : Value) (w : World) (hP : Puts w.heap.size w v L) (hb : BatchIn (s, L, ())) :
    Calls Try.prog 10 #[.agg #[.int .u64 s, v]] w fun e w' => e = .returned (.tuple #[.string (Cd.bs (encode (s, L, ())).1), .int .i64 ((encode (s, L, ())).2 : Nat)]) ∧ Below w.heap.size w w' := by
  have hW : Below w.heap.size w (w.alloc (.cells #[.int .u64 s, v] 25)) := (Below.refl _ _).alloc (Nat.le_refl _) _
  have bx := Ob.Obj.new w 25 [.int .u64 s, v]
  have hRR := rightR_any s L v _ (hP.grow hW hW.size) hb
  have hE : encode (s, L, ()) = if rightB (s, L, ()) = true then Fr.put 2 (load s.toNat L) else ([], 1) := by unfold encode rightB; simp only [decide_eq_true_eq]
  cases hr : rightB (s, L, ()) with
  | true =>
    have hRt := right_of hr
    obtain ⟨r1, r2, r3, r4, r5⟩ := hRt
    obtain ⟨k1, k2, k3⟩ := check_ok r1
    simp only at r3 r4 k1 k2
    have hM : (MaxSeq : Nat) = 1125899906842624 := rfl
    rw [hr] at hRR
    rw [hr, if_pos rfl] at hE
    have HRR := Lib.hid hRR
    have HE := Lib.hid hE
    have HLD := Lib.hid (fun W (h : Below w.heap.size w W) => loadR_any s s.toNat (by omega) v L W (by omega) (hP.grow h h.size) k2 k1)
    have hll := load_len (s := s.toNat) (by omega) k1 k2
    have HPUT := Lib.hid (fun W => framePutr_any 2 2 rfl (load s.toNat L) W (by omega))
    obtain ⟨a, cap, fb, fo, rfl, ha, hcells⟩ := hP
    clear hRR hE hcells ha r1 r2 r3 r4 r5 k1 k2 k3 hr hM
    generalize load s.toNat L = ld at *
    generalize Fr.put 2 ld = pr at *
    obtain ⟨pb, pe⟩ := pr
    go_enter Try.func10, Try.ntmps10
    go_wp2_with (first
      | (go_at_call 17; (with_reducible refine HRR.out.mono ?_); rintro e w1 ⟨rfl, hb1⟩; have bx1 := bx.below hb1; have c0 := bx1.cell 0; have c1 := bx1.cell 1; simp at c0 c1; have hB1 := hW.trans (hb1.mono (by simp)))
      | (go_at_call 24; (with_reducible refine (HLD.out _ hB1).mono ?_); rintro e w2 ⟨rfl, hb2⟩; have hB2 := hB1.trans (hb2.mono hB1.size))
      | (go_at_call 25; (with_reducible refine (HPUT.out _).mono ?_); rintro e w3 ⟨rfl, hb3⟩))
    go_ret2
    exact ⟨by rw [HE.out]; rfl, hB2.trans (hb3.mono hB2.size)⟩
  | false =>
    rw [hr] at hRR
    rw [hr, if_neg (by simp)] at hE
    have HRR := Lib.hid hRR
    have HE := Lib.hid hE
    obtain ⟨a, cap, fb, fo, rfl, ha, hcells⟩ := hP
    clear hRR hE hr hcells ha
    go_enter Try.func10, Try.ntmps10
    go_wp2_with (go_at_call 17; (with_reducible refine HRR.out.mono ?_); rintro e w1 ⟨rfl, hb1⟩)
    go_ret2
    exact ⟨by rw [HE.out]; rfl, hW.trans (hb1.mono (by simp))⟩

set_option maxRecDepth 100000 in
set_option maxHeartbeats 1000000 in
theorem lastR_any (s : Int) (L : List Pt) (v : Value) (w : World) (hv : ∃ a cap, v = .slice a L.length cap) (hR : Right (s, L, ())) :
    Calls Try.prog 18 #[.agg #[.int .u64 s, v]] w fun e w' => e = .returned (.int .u64 (last (s, L, ()))) ∧ Below w.heap.size w w' := by
  obtain ⟨r1, r2, r3, r4, r5⟩ := hR
  obtain ⟨k1, _, _⟩ := check_ok r1
  obtain ⟨a, cap, rfl⟩ := hv
  have hM : (MaxSeq : Nat) = 1125899906842624 := rfl
  simp only at r2 r3 r4 r5 k1
  have hw1 : IntKind.u64.wrap (L.length : Int) = (L.length : Int) := Cd.wrapU_nat (by omega)
  have h1 : s ≤ 1125899906842624 := by omega
  have h2 : (L.length : Int) ≤ 256 := by omega
  have h3 : (1 : Int) ≤ (L.length : Int) := by omega
  have HL := Lib.hid (show last (s, L, ()) = s + (L.length : Int) - 1 from rfl)
  clear r1 r2 r4 r5 k1 hM
  go_enter Try.func18, Try.ntmps18
  go_wp2_with fail
  go_ret
  exact ⟨by rw [HL.out]; rfl, (Below.refl _ _).alloc (Nat.le_refl _) _⟩
end Wa
end Go.Proofs.Ytmfeeampbmandaa

/-
  Plain mathematics of the program's reading of batches: put by put; it is the chapter's. No program is named here.
-/
namespace Go.Proofs.Ytmfeeampbmandaa
set_option linter.unusedSimpArgs false
set_option linter.unusedVariables false
namespace Wd
open Wa
/-- the put with which bytes begin, how many they are, whether they begin with one -/
def dPut (s : List UInt8) : Pt × Nat × Bool :=
  if (s.headD 2).toNat ≠ 0 ∧ (s.headD 2).toNat ≠ 1 then (([], [], false, ()), 0, false)
  else if (Cd.takeT (s.drop 1) 96).2.2 = 0 ∧ (s.headD 2).toNat = 0 then
    (((Cd.takeT (s.drop 1) 96).1, (Cd.takeT (s.drop (1 + (Cd.takeT (s.drop 1) 96).2.1)) 16384).1, false, ()), 1 + (Cd.takeT (s.drop 1) 96).2.1 + (Cd.takeT (s.drop (1 + (Cd.takeT (s.drop 1) 96).2.1)) 16384).2.1, decide ((Cd.takeT (s.drop (1 + (Cd.takeT (s.drop 1) 96).2.1)) 16384).2.2 = 0))
  else (((Cd.takeT (s.drop 1) 96).1, [], decide ((s.headD 2).toNat = 1), ()), 1 + (Cd.takeT (s.drop 1) 96).2.1, decide ((Cd.takeT (s.drop 1) 96).2.2 = 0))
theorem dPut_no {s : List UInt8} (h : (s.headD 2).toNat ≠ 0 ∧ (s.headD 2).toNat ≠ 1) : dPut s = (([], [], false, ()), 0, false) := if_pos h
theorem dPut_val {s k v : List UInt8} {n m e : Nat} (hc : (s.headD 2).toNat = 0) (hk : Cd.takeT (s.drop 1) 96 = (k, n, 0)) (hv : Cd.takeT (s.drop (1 + n)) 16384 = (v, m, e)) : dPut s = ((k, v, false, ()), 1 + n + m, decide (e = 0)) := by
  unfold dPut
  rw [if_neg (fun h => h.1 hc), hk]
  simp only
  rw [if_pos ⟨trivial, hc⟩, hv]
theorem dPut_del {s k : List UInt8} {n e : Nat} (hc : (s.headD 2).toNat = 1) (hk : Cd.takeT (s.drop 1) 96 = (k, n, e)) : dPut s = ((k, [], true, ()), 1 + n, decide (e = 0)) := by
  unfold dPut
  rw [if_neg (fun h => h.2 hc), hk]
  simp only
  rw [if_neg (fun h => by have := h.2; omega), decide_eq_true hc]
theorem dPut_err {s k : List UInt8} {n e : Nat} (hc : (s.headD 2).toNat = 0) (hk : Cd.takeT (s.drop 1) 96 = (k, n, e)) (he : e ≠ 0) : dPut s = ((k, [], false, ()), 1 + n, false) := by
  unfold dPut
  rw [if_neg (fun h => h.1 hc), hk]
  simp only
  rw [if_neg (fun h => he h.1), decide_eq_false (by omega), decide_eq_false he]
theorem head_cons {s : List UInt8} {c : UInt8} (h : s.headD 2 = c) (hc : c ≠ 2) : s = c :: s.drop 1 := by
  cases s with
  | nil => exact absurd h.symm hc
  | cons a r => simp at h; subst h; rfl
theorem dPut_cases (s : List UInt8) : ((s.headD 2).toNat ≠ 0 ∧ (s.headD 2).toNat ≠ 1) ∨ ((s.headD 2).toNat = 0 ∧ s = 0 :: s.drop 1) ∨ ((s.headD 2).toNat = 1 ∧ s = 1 :: s.drop 1) := by
  by_cases h0 : (s.headD 2).toNat = 0
  · refine .inr (.inl ⟨h0, head_cons (UInt8.toNat_inj.1 (by simpa using h0)) (by decide)⟩)
  · by_cases h1 : (s.headD 2).toNat = 1
    · refine .inr (.inr ⟨h1, head_cons (UInt8.toNat_inj.1 (by simpa using h1)) (by decide)⟩)
    · exact .inl ⟨h0, h1⟩
theorem dPut_sound {s : List UInt8} (h : (dPut s).2.2 = true) : s = putB (dPut s).1 ++ s.drop (dPut s).2.1 := by
  rcases dPut_cases s with hc | ⟨hc, hs⟩ | ⟨hc, hs⟩
  · rw [dPut_no hc] at h; cases h
  · obtain ⟨k, n, e, hk⟩ : ∃ k n e, Cd.takeT (s.drop 1) 96 = (k, n, e) := ⟨_, _, _, rfl⟩
    by_cases he : e = 0
    · subst he
      obtain ⟨v, m, e, hv⟩ : ∃ v m e, Cd.takeT (s.drop (1 + n)) 16384 = (v, m, e) := ⟨_, _, _, rfl⟩
      rw [dPut_val hc hk hv] at h ⊢
      have he : e = 0 := by simpa using h
      subst he
      have g1 := Cd.takeT_canon hk
      have g2 := Cd.takeT_canon hv
      simp only [putB]
      rw [if_neg (by simp), ← List.drop_drop, List.cons_append, List.append_assoc, ← g2]
      rw [List.drop_drop] at g1
      rw [← g1]
      exact hs
    · rw [dPut_err hc hk he] at h; cases h
  · obtain ⟨k, n, e, hk⟩ : ∃ k n e, Cd.takeT (s.drop 1) 96 = (k, n, e) := ⟨_, _, _, rfl⟩
    rw [dPut_del hc hk] at h ⊢
    have he : e = 0 := by simpa using h
    subst he
    have g1 := Cd.takeT_canon hk
    simp only [putB]
    rw [if_pos trivial, List.cons_append]
    rw [List.drop_drop] at g1
    rw [← g1]
    exact hs
theorem dPut_in (s : List UInt8) : (dPut s).1.1.length ≤ 1048576 ∧ (dPut s).1.2.1.length ≤ 1048576 ∧ (dPut s).2.1 ≤ s.length := by
  rcases dPut_cases s with hc | ⟨hc, hs⟩ | ⟨hc, hs⟩
  · rw [dPut_no hc]; simp
  · have hl := congrArg List.length hs
    rw [List.length_cons] at hl
    obtain ⟨k, n, e, hk⟩ : ∃ k n e, Cd.takeT (s.drop 1) 96 = (k, n, e) := ⟨_, _, _, rfl⟩
    have k1 := Fi.takeT_len (s.drop 1) 96
    have k2 := (Fr.takeT_len (s.drop 1) 96).1
    have k1' : (Cd.takeT (s.drop 1) 96).1.length ≤ 96 := k1
    rw [hk] at k1' k2
    simp only at k1' k2
    by_cases he : e = 0
    · subst he
      obtain ⟨v, m, e, hv⟩ : ∃ v m e, Cd.takeT (s.drop (1 + n)) 16384 = (v, m, e) := ⟨_, _, _, rfl⟩
      have v1 : (Cd.takeT (s.drop (1 + n)) 16384).1.length ≤ 16384 := Fi.takeT_len (s.drop (1 + n)) 16384
      have v2 := (Fr.takeT_len (s.drop (1 + n)) 16384).1
      rw [hv] at v1 v2
      simp only at v1 v2
      rw [dPut_val hc hk hv]
      simp only [List.length_drop] at *
      omega
    · rw [dPut_err hc hk he]
      simp only [List.length_nil]
      omega
  · have hl := congrArg List.length hs
    rw [List.length_cons] at hl
    obtain ⟨k, n, e, hk⟩ : ∃ k n e, Cd.takeT (s.drop 1) 96 = (k, n, e) := ⟨_, _, _, rfl⟩
    have k1' : (Cd.takeT (s.drop 1) 96).1.length ≤ 96 := Fi.takeT_len (s.drop 1) 96
    have k2 := (Fr.takeT_len (s.drop 1) 96).1
    rw [hk] at k1' k2
    simp only at k1' k2
    rw [dPut_del hc hk]
    simp only [List.length_nil]
    omega
theorem dPut_put {p : Pt} {x : List UInt8} (hp : mayB p = true) : dPut (putB p ++ x) = (p, (putB p).length, true) := by
  obtain ⟨k, v, d, _⟩ := p
  simp [mayB] at hp
  cases d
  · have e : putB (k, v, false, ()) ++ x = 0 :: (Cd.putT k ++ (Cd.putT v ++ x)) := by simp [putB]
    rw [e]
    have hk : Cd.takeT ((0 :: (Cd.putT k ++ (Cd.putT v ++ x))).drop 1) 96 = (k, (Cd.putT k).length, 0) := Fr.takeT_putT' k _ 96 (by omega) (by have := hp.1.1.2; omega)
    have hd : (0 :: (Cd.putT k ++ (Cd.putT v ++ x))).drop (1 + (Cd.putT k).length) = Cd.putT v ++ x := by
      rw [Nat.add_comm, List.drop_succ_cons, List.drop_left' rfl]
    have hv : Cd.takeT ((0 :: (Cd.putT k ++ (Cd.putT v ++ x))).drop (1 + (Cd.putT k).length)) 16384 = (v, (Cd.putT v).length, 0) := by
      rw [hd]; exact Fr.takeT_putT' v x 16384 (by omega) (by have := hp.1.2; omega)
    rw [dPut_val rfl hk hv]
    have : (putB (k, v, false, ())).length = 1 + (Cd.putT k).length + (Cd.putT v).length := by simp [putB]; omega
    rw [this]
    rfl
  · have hv0 : v = [] := by have := hp.2; simpa using this
    subst hv0
    have e : putB (k, [], true, ()) ++ x = 1 :: (Cd.putT k ++ x) := by simp [putB]
    rw [e]
    have hk : Cd.takeT ((1 :: (Cd.putT k ++ x)).drop 1) 96 = (k, (Cd.putT k).length, 0) := Fr.takeT_putT' k _ 96 (by omega) (by have := hp.1.1.2; omega)
    rw [dPut_del rfl hk]
    have : (putB (k, [], true, ())).length = 1 + (Cd.putT k).length := by simp [putB]; omega
    rw [this]
    rfl
/-- so many puts, one behind the other, and what is left -/
def dPuts : Nat → List UInt8 → Option (List Pt × List UInt8)
  | 0, s => some ([], s)
  | k + 1, s => if (dPut s).2.2 = true then (dPuts k (s.drop (dPut s).2.1)).map (fun x => ((dPut s).1 :: x.1, x.2)) else none
theorem dPuts_sound : ∀ (k : Nat) (s : List UInt8) (L : List Pt) (r : List UInt8), dPuts k s = some (L, r) → L.length = k ∧ s = L.flatMap putB ++ r
  | 0, s, L, r, h => by simp [dPuts] at h; obtain ⟨rfl, rfl⟩ := h; simp
  | k + 1, s, L, r, h => by
    rw [dPuts] at h
    split at h
    · rename_i hx
      obtain ⟨⟨L', r'⟩, h1, h2⟩ := Option.map_eq_some_iff.1 h
      obtain ⟨g1, g2⟩ := dPuts_sound k _ L' r' h1
      simp only [Prod.mk.injEq] at h2
      obtain ⟨rfl, rfl⟩ := h2
      have g3 := dPut_sound hx
      refine ⟨by rw [List.length_cons, g1], ?_⟩
      rw [List.flatMap_cons, List.append_assoc, ← g2]
      exact g3
    · cases h
theorem dPuts_in : ∀ (k : Nat) (s : List UInt8) (L : List Pt) (r : List UInt8), dPuts k s = some (L, r) → ∀ p ∈ L, PutIn p
  | 0, s, L, r, h => by simp [dPuts] at h; obtain ⟨rfl, rfl⟩ := h; simp
  | k + 1, s, L, r, h => by
    rw [dPuts] at h
    split at h
    · obtain ⟨⟨L', r'⟩, h1, h2⟩ := Option.map_eq_some_iff.1 h
      have g := dPuts_in k _ L' r' h1
      simp only [Prod.mk.injEq] at h2
      obtain ⟨rfl, rfl⟩ := h2
      intro p hp
      rcases List.mem_cons.1 hp with rfl | hp
      · exact ⟨(dPut_in s).1, (dPut_in s).2.1⟩
      · exact g p hp
    · cases h
theorem dPuts_put : ∀ (L : List Pt) (x : List UInt8), (∀ p ∈ L, mayB p = true) → dPuts L.length (L.flatMap putB ++ x) = some (L, x)
  | [], x, _ => by simp [dPuts]
  | p :: r, x, h => by
    rw [List.length_cons, dPuts, List.flatMap_cons, List.append_assoc, dPut_put (h p (List.mem_cons_self ..))]
    simp only
    rw [if_pos trivial, List.drop_left' rfl, dPuts_put r x (fun q hq => h q (List.mem_cons_of_mem _ hq))]
    rfl
theorem dPuts_step {k : Nat} {s : List UInt8} {L0 : List Pt} (h : (dPut s).2.2 = true) : (dPuts (k + 1) s).map (fun x => (L0 ++ x.1, x.2)) = (dPuts k (s.drop (dPut s).2.1)).map (fun x => ((L0 ++ [(dPut s).1]) ++ x.1, x.2)) := by
  rw [dPuts, if_pos h, Option.map_map]
  congr 1
  funext x
  simp
theorem dPuts_stop {k : Nat} {s : List UInt8} (h : (dPut s).2.2 = false) : dPuts (k + 1) s = none := by rw [dPuts, if_neg (by rw [h]; simp)]
/-- the batch that a load says -/
def dBatch (l : List UInt8) : Option Bt :=
  if (Cd.takeU l).2.2 ≠ 0 then none
  else if (Cd.takeU (l.drop (Cd.takeU l).2.1)).2.2 ≠ 0 ∨ 256 < (Cd.takeU (l.drop (Cd.takeU l).2.1)).1 then none
  else match dPuts (Cd.takeU (l.drop (Cd.takeU l).2.1)).1 (l.drop ((Cd.takeU l).2.1 + (Cd.takeU (l.drop (Cd.takeU l).2.1)).2.1)) with
    | some (L, []) => some (((Cd.takeU l).1 : Int), L, ())
    | _ => none
def endOf (seq : Nat) : Option (List Pt × List UInt8) → Option Bt
  | some (L, []) => some ((seq : Int), L, ())
  | _ => none
theorem dBatch_go {l : List UInt8} {s k m j : Nat} (h1 : Cd.takeU l = (s, k, 0)) (h2 : Cd.takeU (l.drop k) = (m, j, 0)) (h3 : m ≤ 256) : dBatch l = endOf s (dPuts m (l.drop (k + j))) := by
  unfold dBatch
  rw [h1]
  simp only
  rw [h2]
  simp only
  rw [if_neg (by simp), if_neg (by simp; omega)]
  rfl
theorem dBatch_no1 {l : List UInt8} {s k e : Nat} (h1 : Cd.takeU l = (s, k, e)) (he : e ≠ 0) : dBatch l = none := by
  unfold dBatch; rw [h1]; exact if_pos he
theorem dBatch_no2 {l : List UInt8} {s k m j e : Nat} (h1 : Cd.takeU l = (s, k, 0)) (h2 : Cd.takeU (l.drop k) = (m, j, e)) (h3 : e ≠ 0 ∨ 256 < m) : dBatch l = none := by
  unfold dBatch; rw [h1]; simp only; rw [h2]; simp only; rw [if_neg (by simp), if_pos h3]
theorem dBatch_some {l : List UInt8} {b : Bt} (h : dBatch l = some b) : BatchIn b ∧ Wa.load b.1.toNat b.2.1 = l := by
  obtain ⟨s, k, e, h1⟩ : ∃ s k e, Cd.takeU l = (s, k, e) := ⟨_, _, _, rfl⟩
  by_cases he : e = 0
  · subst he
    obtain ⟨m, j, e, h2⟩ : ∃ m j e, Cd.takeU (l.drop k) = (m, j, e) := ⟨_, _, _, rfl⟩
    by_cases h3 : e ≠ 0 ∨ 256 < m
    · rw [dBatch_no2 h1 h2 h3] at h; cases h
    · have he : e = 0 := by omega
      subst he
      rw [dBatch_go h1 h2 (by omega)] at h
      have hs := (Cd.takeU_ok l).1
      rw [h1] at hs
      simp only at hs
      cases hp : dPuts m (l.drop (k + j)) with
      | none => rw [hp] at h; cases h
      | some x =>
        obtain ⟨L, r⟩ := x
        rw [hp] at h
        cases r with
        | cons c r => cases h
        | nil =>
          have hb := Option.some.inj h
          obtain ⟨g1, g2⟩ := dPuts_sound _ _ _ _ hp
          have g3 := dPuts_in _ _ _ _ hp
          rw [← hb]
          refine ⟨⟨⟨by simp only; omega, by simp only; omega⟩, g3, by simp only; omega⟩, ?_⟩
          have c1 := Cd.takeU_canon h1
          have c2 := Cd.takeU_canon h2
          rw [List.drop_drop] at c2
          simp only [Int.toNat_natCast]
          unfold Wa.load
          rw [g1, List.append_assoc]
          rw [List.append_nil] at g2
          rw [← g2, ← c2]
          exact c1.symm
  · rw [dBatch_no1 h1 he] at h; cases h
theorem dBatch_load {l : List UInt8} {b : Bt} (h : IsLoad l b) : dBatch l = some b := by
  obtain ⟨⟨r1, r2, r3, r4, r5⟩, hl⟩ := h
  obtain ⟨k1, k2, _⟩ := check_ok r1
  have hM : (MaxSeq : Nat) = 1125899906842624 := rfl
  obtain ⟨s, L, _⟩ := b
  simp only at *
  have h1 : Cd.takeU l = (s.toNat, (Cd.putU s.toNat).length, 0) := by
    rw [← hl]; unfold Wa.load; rw [List.append_assoc]; exact Cd.takeU_putU _ _ (by omega)
  have hd : l.drop (Cd.putU s.toNat).length = Cd.putU L.length ++ L.flatMap putB := by
    rw [← hl]; unfold Wa.load; rw [List.append_assoc, List.drop_left' rfl]
  have h2 : Cd.takeU (l.drop (Cd.putU s.toNat).length) = (L.length, (Cd.putU L.length).length, 0) := by
    rw [hd]; exact Cd.takeU_putU _ _ (by omega)
  have hd2 : l.drop ((Cd.putU s.toNat).length + (Cd.putU L.length).length) = L.flatMap putB ++ [] := by
    rw [← List.drop_drop, hd, List.drop_left' rfl, List.append_nil]
  rw [dBatch_go h1 h2 k1, hd2, dPuts_put L [] k2]
  show some (((s.toNat : Nat) : Int), L, ()) = some (s, L, ())
  rw [show ((s.toNat : Nat) : Int) = s by omega]
theorem decode_no {l : List UInt8} (h : dBatch l = none) : Wa.decode l = none := decode_none.2 (fun b hb => by rw [dBatch_load hb] at h; cases h)
theorem decode_of {l : List UInt8} {b : Bt} (h : dBatch l = some b) : Wa.decode l = if Right b then some b else none := by
  by_cases hr : Right b
  · rw [if_pos hr]; exact decode_iff.2 ⟨hr, (dBatch_some h).2⟩
  · rw [if_neg hr]
    exact decode_none.2 (fun c hc => by
      have := dBatch_load hc
      rw [h] at this
      cases this
      exact hr hc.1)
end Wd
end Go.Proofs.Ytmfeeampbmandaa

/-
  What the library's functions answer at this dump: the library's contracts, one application each.
-/
namespace Go.Proofs
open Go.Shelf
def Try.lays169_ren : Go.Shelf.Ren := ⟨fun | 169 => 37 | n => n, fun | 70 => 66 | 9 => 9 | 0 => 0 | 72 => 69 | 37 => 67 | 127 => 94 | 3 => 3 | 5 => 5 | n => n, fun | n => n⟩
theorem Try.lays169 : Go.Proofs.Lays.n169 Try.prog Try.lays169_ren := {
  mixed := by kernel_rfl
  f169 := Try.func37.trans (congrArg some (by kernel_rfl))
  t0 := Try.underlying0
  a0 := Try.isAgg0
  z0 := Try.sizeOf0
  v0 := Try.zeroValue0
  t3 := Try.underlying3
  a3 := Try.isAgg3
  z3 := Try.sizeOf3
  v3 := Try.zeroValue3
  t9 := Try.underlying9
  a9 := Try.isAgg9
  z9 := Try.sizeOf9
  v9 := Try.zeroValue9
  t37 := Try.underlying67
  a37 := Try.isAgg67
  z37 := Try.sizeOf67
  v37 := Try.zeroValue67
  t70 := Try.underlying66
  a70 := Try.isAgg66
  z70 := Try.sizeOf66
  v70 := Try.zeroValue66
  t72 := Try.underlying69
  a72 := Try.isAgg69
  z72 := Try.sizeOf69
  v72 := Try.zeroValue69
  t127 := Try.underlying94
  a127 := Try.isAgg94
  z127 := Try.sizeOf94
  v127 := Try.zeroValue94 }
theorem Try.Builder_Extra_169 : Builder.Extra Try.prog Try.lays169_ren := {
  sizeBuilder := by kernel_rfl
  liesBuilder := by kernel_rfl
  t5 := Try.underlying5
  a5 := Try.isAgg5
  z5 := Try.sizeOf5
  v5 := Try.zeroValue5
  infoByte := by kernel_rfl
  cellsByte := by kernel_rfl
  sizeByte := by kernel_rfl
  neB5 := by decide }
open Go.RowKit in
theorem Try.Builder_String_any_k (B b : Nat) (l : List UInt8) (w : World) (h : Lib.IsBuilderF 69 5 B b (Lib.byteCells l) w) (hBw : B ≤ w.heap.size) :
    Calls Try.prog 37 #[.pointer (some ⟨b, 0, none⟩)] w fun e w' => e = .returned (.string ⟨l.toArray⟩) ∧ (Lib.IsBuilderF 69 5 B b (Lib.byteCells l) w' ∧ Below B w w' ∧ Lib.OthersKept 5 (some b) w w') := Any.Builder_String_any_k Try.lays169 Try.Builder_Extra_169 B b l w h hBw
end Go.Proofs

/-
  strings.Builder as this dump has it: the copy check, WriteString, String, on a builder that the call itself has made.
-/
namespace Go.Proofs.Ytmfeeampbmandaa
open Go.RowKit
set_option linter.unusedSimpArgs false
set_option linter.unusedVariables false
namespace Sb
/-- block b is a builder that holds these bytes; all of it lies at B or above -/
def Is (B b : Nat) (l : List UInt8) (W : World) : Prop := Lib.IsBuilderF 69 5 B b (Lib.byteCells l) W
/-- all but the builder's own stands -/
def Rest (b : Nat) (W W' : World) : Prop := Lib.OthersKept 5 (some b) W W'
theorem Rest.refl (b : Nat) (W : World) : Rest b W W := Lib.OthersKept.refl _ _ _
theorem Rest.trans {b : Nat} {W W1 W2 : World} (h : Rest b W W1) (k : Rest b W1 W2) : Rest b W W2 := Lib.OthersKept.trans h k
theorem Rest.below {b : Nat} {W W' : World} (h : Below W.heap.size W W') : Rest b W W' := fun k o hk hb ho => (h.block k (Array.getElem?_eq_some_iff.1 hk).1).trans hk
theorem Rest.obj {b k : Nat} {W W' : World} {t : TypeId} {cs : List Value} (h : Rest b W W') (ho : Ob.Obj W k t cs) (hk : k ≠ b) (ht : t ≠ 5) : Ob.Obj W' k t cs :=
  h k _ ho (fun e => hk (Option.some.inj e)) (fun c fz e => ht (by injection e))
theorem Is.lt {B b : Nat} {l : List UInt8} {W : World} (h : Is B b l W) : b < W.heap.size := h.elim (·.lt) (·.lt)
theorem Is.ge {B b : Nat} {l : List UInt8} {W : World} (h : Is B b l W) : B ≤ b := h.elim (·.1) (·.1)
theorem Is.below {B b : Nat} {l : List UInt8} {W W' : World} (h : Is B b l W) (hb : Below W.heap.size W W') : Is B b l W' := by
  have key : ∀ p, Lib.BuilderAtF 69 5 B b p (Lib.byteCells l) W → Lib.BuilderAtF 69 5 B b p (Lib.byteCells l) W' := fun p ⟨h0, v, h1, h2, h3⟩ => by
    refine ⟨h0, v, (hb.block b (Array.getElem?_eq_some_iff.1 h1).1).trans h1, ?_, h3⟩
    rcases h2 with ⟨h4, h5 | ⟨g, cap, cur, fz, e1, e2, e3, e4⟩⟩
    · exact ⟨h4, .inl h5⟩
    · exact ⟨h4, .inr ⟨g, cap, cur, fz, e1, e2, (hb.block g (Array.getElem?_eq_some_iff.1 e3).1).trans e3, e4⟩⟩
  exact h.imp (key _) (key _)
theorem Is.alloc {B b : Nat} {l : List UInt8} {W : World} (h : Is B b l W) (o : Go.Obj) : Is B b l (W.alloc o) := h.below ((Below.refl _ _).alloc (Nat.le_refl _) _)
theorem Is.drew {B b : Nat} {l : List UInt8} {W : World} (h : Is B b l W) : Is B b l W.drew := h.below (Below.refl _ _).drew
theorem Is.new (W : World) : Is W.heap.size W.heap.size [] (W.alloc (.cells #[.pointer none, .slice none 0 0] 69)) :=
  .inl ⟨Nat.le_refl _, .slice none 0 0, World.alloc_heap_new W _, ⟨by first | decide | simp, .inl ⟨rfl, rfl⟩⟩, by simp [Value.ownBlock]⟩

theorem strCells_bytes (s : List UInt8) : Lib.strCells ⟨s.toArray⟩ = Lib.byteCells s := by
  simp [Lib.strCells, Lib.byteCells]

theorem sizeBuilder : (Try.prog.info? 69).map (·.size) = some 2 := by kernel_rfl

set_option maxHeartbeats 2000000 in
set_option maxRecDepth 100000 in
theorem copyCheck_any (B b : Nat) (bs : List Value) (w : World) (h : Lib.IsBuilderF 69 5 B b bs w) :
    Calls Try.prog 52 #[.pointer (some ⟨b, 0, none⟩)] w fun e w' => e = .returned (.tuple #[]) ∧ (Lib.BuilderAtF 69 5 B b (.pointer (some ⟨b, 0, none⟩)) bs w' ∧ Below B w w' ∧ Rest b w w') := by
  rcases h with h | h
  · have c0 := h.cell0
    have f0 := h.frozen0
    have hl := h.lt
    have hB := h.1
    have hsh := h.shape
    obtain ⟨j, hj, hjs⟩ := Option.map_eq_some_iff.1 sizeBuilder
    have HU := Lib.hid (h.used (.pointer (some ⟨b, 0, none⟩)))
    clear h
    go_enter Try.func52, Try.ntmps52
    go_wp2
    rw [Lib.run_to_unsafe w ⟨b, 0, none⟩ Try.underlying66 Try.underlying96 hj (by rw [hjs]; decide) hsh (Nat.zero_lt_succ 1)]
    simp only [Result.andThen]
    rw [Oper.upon_value]
    go_wp2
    rw [run_callFunc_extern Try.func57 (by kernel_rfl) (by kernel_rfl) (by kernel_rfl) (e := Extern.AbiNoEscape.same) (by kernel_rfl)]
    rw [Lib.run_noEscape]
    simp only [Result.andThen]
    rw [Oper.upon_value]
    go_wp2
    rw [Lib.run_from_unsafe w ⟨b, 0, none⟩ Try.underlying96 Try.underlying66 hj hsh (by kernel_rfl)]
    simp only [Result.andThen]
    rw [Oper.upon_value]
    go_wp2
    go_end0
    exact ⟨rfl, HU.out, (Below.refl B w).setCell (p := ⟨b, 0, none⟩) hB _, (Lib.OthersKept.refl _ _ w).setCell ⟨b, 0, none⟩ rfl _⟩
  · have c0 := h.cell0
    obtain ⟨j, hj, hjs⟩ := Option.map_eq_some_iff.1 sizeBuilder
    have H := Lib.hid h
    clear h
    go_enter Try.func52, Try.ntmps52
    go_wp2
    rw [Lib.run_neq_ptr_same w _ Try.underlying66 hj]
    go_wp2
    go_end0
    exact ⟨rfl, H.out, Below.refl B _, Lib.OthersKept.refl _ _ _⟩

theorem info_u8 : (Try.prog.info? 5).map (fun i => (i.zero, i.size, i.bytes)) = some (some (.int .u8 0), 1, 1) := by kernel_rfl

set_option maxHeartbeats 2000000 in
set_option maxRecDepth 100000 in
theorem writeString_any (B b : Nat) (l s : List UInt8) (w : World) (h : Is B b l w) (hlen : l.length + s.length ≤ 140737488355328) (hBw : B ≤ w.heap.size) :
    Calls Try.prog 33 #[.pointer (some ⟨b, 0, none⟩), .string ⟨s.toArray⟩] w fun e w' => e = .returned (.tuple #[.int .i64 (s.length : Nat), .nilIface]) ∧ Is B b (l ++ s) w' ∧ Below B w w' ∧ Rest b w w' := by
  obtain ⟨i0, hi, hz0, hz1, hz2⟩ := info_parts info_u8
  have hsz : (⟨s.toArray⟩ : ByteArray).size = s.length := rfl
  have HSZ := Lib.hid hsz
  have hbl : (Lib.byteCells l).length = l.length := Lib.byteCells_length l
  have HBL := Lib.hid hbl
  clear hsz hbl
  go_enter Try.func33, Try.ntmps33
  go_wp2_with (go_at_call 52; refine (copyCheck_any B b (Lib.byteCells l) _ h).mono ?_)
  rintro e w1 ⟨rfl, h1, hb1, hk1⟩
  obtain ⟨hB, v, hbk, hown, hne⟩ := h1
  have c0 : w1.cell? ⟨b, 0, none⟩ = some (.pointer (some ⟨b, 0, none⟩)) := by rw [Lib.cell_of_heap hbk]; rfl
  have c1 : w1.cell? ⟨b, 1, none⟩ = some v := by rw [Lib.cell_of_heap hbk]; rfl
  go_wp2_with (at_builtin; refine Lib.wpList_append_own_stringF _ rfl _ _ 67 9 rfl B 5 i0 Try.underlying67 Try.underlying9 hi hz0 hz1 hz2 _ _ _ rfl hown ⟨s.toArray⟩ rfl ?c3 ?c4 ?c5 ?_)
  case c3 => rw [HSZ.out, HBL.out]; unfold maxLen; omega
  case c4 => rw [HSZ.out, HBL.out]; omega
  case c5 => have := hb1.size; omega
  intro v' w2 hown' hgrow _
  have hlt : b < w1.heap.size := (Array.getElem?_eq_some_iff.1 hbk).1
  have hb2 : w2.heap[b]? = some (.cells #[.pointer (some ⟨b, 0, none⟩), v] 69 (0, 0)) := by
    rw [hgrow.block b hlt (fun e => hne e.symm)]
    exact hbk
  have d0 : w2.cell? ⟨b, 0, none⟩ = some (.pointer (some ⟨b, 0, none⟩)) := by rw [Lib.cell_of_heap hb2]; rfl
  have d1 : w2.cell? ⟨b, 1, none⟩ = some v := by rw [Lib.cell_of_heap hb2]; rfl
  have f1 : w2.frozen? ⟨b, 1, none⟩ = false := Lib.frozen_of_heap hb2 1
  obtain ⟨ao, n', cap, rfl⟩ : ∃ ao n' cap, v' = .slice ao n' cap := by
    rcases hown'.2 with ⟨hv, _⟩ | ⟨g, cap, cur, fz, hv, _⟩
    · exact ⟨_, _, _, hv⟩
    · exact ⟨_, _, _, hv⟩
  go_wp2
  go_ret2
  refine ⟨rfl, ?_, ?_, (hk1.grown hgrow (Lib.ownsRowF_kind hown)).setCell ⟨b, 1, none⟩ rfl _⟩
  · have := Lib.BuilderAtF.put (T := 69) (e := 5) hB hb2 (bs' := Lib.byteCells l ++ Lib.strCells ⟨s.toArray⟩) (by rw [List.length_append, Lib.strCells_length]; exact hown') (by decide)
    rw [strCells_bytes] at this
    refine .inr ?_
    rw [show Lib.byteCells (l ++ s) = Lib.byteCells l ++ Lib.byteCells s by simp [Lib.byteCells]]
    exact this
  · exact (hb1.grown hgrow (by have := hb1.size; omega) (fun k hk => (hown.lt k hk).1)).setCell (p := ⟨b, 1, none⟩) hB _

theorem string_any (B b : Nat) (l : List UInt8) (w : World) (h : Is B b l w) (hBw : B ≤ w.heap.size) :
    Calls Try.prog 37 #[.pointer (some ⟨b, 0, none⟩)] w fun e w' => e = .returned (.string ⟨l.toArray⟩) ∧ Is B b l w' ∧ Below B w w' ∧ Rest b w w' :=
  (Try.Builder_String_any_k B b l w h hBw).mono fun e w' ⟨h1, h2, h3, h4⟩ => ⟨h1, h2, h3, h4⟩
end Sb
end Go.Proofs.Ytmfeeampbmandaa

/-
  strings.Builder as this dump has it: WriteByte.
-/
namespace Go.Proofs.Ytmfeeampbmandaa
open Go.RowKit
set_option linter.unusedSimpArgs false
set_option linter.unusedVariables false
namespace Sb

set_option maxHeartbeats 2000000 in
set_option maxRecDepth 100000 in
theorem writeByte_any (B b : Nat) (l : List UInt8) (C : Int) (c : UInt8) (hC : C = (c.toNat : Int)) (w : World) (h : Is B b l w) (hlen : l.length + 1 ≤ 140737488355328) (hBw : B ≤ w.heap.size) :
    Calls Try.prog 35 #[.pointer (some ⟨b, 0, none⟩), .int .u8 C] w fun e w' => e = .returned .nilIface ∧ Is B b (l ++ [c]) w' ∧ Below B w w' ∧ Rest b w w' := by
  obtain ⟨i0, hi, hz0, hz1, hz2⟩ := info_parts info_u8
  have HBL := Lib.hid (Lib.byteCells_length l)
  have HCV := Lib.hid (show Lib.byteCells (l ++ [c]) = Lib.byteCells l ++ [.int .u8 C] by rw [hC]; simp [Lib.byteCells])
  clear hC
  go_enter Try.func35, Try.ntmps35
  go_wp2_with (go_at_call 52; refine (copyCheck_any B b (Lib.byteCells l) _ h).mono ?_)
  rintro e w1 ⟨rfl, h1, hb1, hk1⟩
  obtain ⟨hB, v, hbk, hown, hne⟩ := h1
  have c0 : w1.cell? ⟨b, 0, none⟩ = some (.pointer (some ⟨b, 0, none⟩)) := by rw [Lib.cell_of_heap hbk]; rfl
  have c1 : w1.cell? ⟨b, 1, none⟩ = some v := by rw [Lib.cell_of_heap hbk]; rfl
  go_wp2_with (at_builtin; refine wpList_append_ownF _ rfl _ _ 67 rfl B 5 i0 (.int .u8 0) 1 1 Try.underlying67 hi hz0 hz1 hz2 rfl (by decide) _ _ _ rfl (hown.alloc _) ⟨w1.heap.size, 0, none⟩ 1 1 [.int .u8 C] rfl rfl ?k1 ?k2 ?k3 ?k4 ?k5 ?_)
  case k1 =>
    intro j u hj
    match j, hj with
    | 0, hj => simp at hj; subst hj; simp [Addr.add]
  case k2 => intro u hu; simp at hu; subst hu; rfl
  case k3 => rw [HBL.out]; unfold maxLen; omega
  case k4 => rw [HBL.out]; omega
  case k5 => have := hb1.size; simp; omega
  intro v' w2 hown' hgrow _
  have hlt : b < w1.heap.size := (Array.getElem?_eq_some_iff.1 hbk).1
  have hb2 : w2.heap[b]? = some (.cells #[.pointer (some ⟨b, 0, none⟩), v] 69 (0, 0)) := by
    rw [hgrow.block b (by simp; omega) (fun e => hne e.symm), Lib.alloc_old w1 _ b hlt]
    exact hbk
  have d0 : w2.cell? ⟨b, 0, none⟩ = some (.pointer (some ⟨b, 0, none⟩)) := by rw [Lib.cell_of_heap hb2]; rfl
  have d1 : w2.cell? ⟨b, 1, none⟩ = some v := by rw [Lib.cell_of_heap hb2]; rfl
  have f1 : w2.frozen? ⟨b, 1, none⟩ = false := Lib.frozen_of_heap hb2 1
  obtain ⟨ao, n', cap, rfl⟩ : ∃ ao n' cap, v' = .slice ao n' cap := by
    rcases hown'.2 with ⟨hv, _⟩ | ⟨g, cap, cur, fz, hv, _⟩
    · exact ⟨_, _, _, hv⟩
    · exact ⟨_, _, _, hv⟩
  go_wp2
  go_ret
  refine ⟨rfl, ?_, ?_, ((hk1.alloc _).grown hgrow (Lib.ownsRowF_kind (hown.alloc _))).setCell ⟨b, 1, none⟩ rfl _⟩
  · have := Lib.BuilderAtF.put (T := 69) (e := 5) hB hb2 (bs' := Lib.byteCells l ++ [.int .u8 C]) (by simpa using hown') (by decide)
    refine .inr ?_
    rw [HCV.out]
    exact this
  · exact ((hb1.alloc (by have := hb1.size; omega) _).grown hgrow (by have := hb1.size; simp; omega) (fun k hk => (hown.lt k hk).1)).setCell (p := ⟨b, 1, none⟩) hB _
end Sb
end Go.Proofs.Ytmfeeampbmandaa
