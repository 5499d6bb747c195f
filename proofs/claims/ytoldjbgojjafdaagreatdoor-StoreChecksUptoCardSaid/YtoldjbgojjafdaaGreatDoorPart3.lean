import Derived.RangeFuncBox
import Derived.RangeFuncLeaves
import Derived.RangeFuncNested
import Derived.Shelf.Abstract
import Derived.WalkKit
import Derived.OwnWalkIn
import Derived.TacticsInMore
import Derived.LoopNIn
import Derived.LoopIn
import Derived.Lib.AppendStr
import Derived.Lib.BufStepsIn
import Derived.Deep.RegionWith
import Derived.Deep.DeepCutAuto
import Derived.Deep.Cut
import Derived.Deep.CutRange
import Derived.Deep.LoopGhost
import Derived.Shelf.Strings.Builder1
import Derived.Shelf.Strings.Builder2
import Derived.Shelf.Small.Bits
import Derived.Shelf.Small.Strs
import Derived.Shelf.Strings.BuilderF
import Derived.Shelf.Strings.BuilderK
import Derived.Shelf.Strconv.Itoa0
import Derived.Shelf.Strconv.Itoa1
import Derived.Shelf.LaysM
import Derived.Shelf.Strconv.Itoa2
import Derived.Shelf.Strconv.Itoa3
import Derived.Shelf.Strings.Search1
import Derived.Shelf.Bits.Mul64
import Derived.Ground.Names2Prog
import Derived.Shelf.Slices.Clone
import Derived.Shelf.Slices.CompactS
import Derived.Shelf.Slices.Cells
import Derived.Ground.SlgnProg
import Derived.Shelf.SlicesE.Clone
import Derived.Test.YtoldjbgojjafdaaGreatDoorProg
import Derived.WalkLawsBesides
import Derived.Below
import Derived.Lib.Hide
import Derived.Deep.RegionHeld3
import Derived.Deep.CutBlock
import Derived.JoinedCond
import Derived.ProofKit
import Derived.Test.YtoldjbgojjafdaaGreatDoorPart2
/-
  Plain data that a call has made itself, in rows of its own at B or above: kept, read, and put together by append. (What came in: XGen.)
-/
namespace Go.Proofs.YtoldjbgojjafdaaGreatDoor
open Go.RowKit
set_option linter.unusedVariables false
namespace Gn

/-- a row of elements, each of so many cells -/
def OwL (W : World) (B : Nat) (te : TypeId) (sz : Nat) {α : Type} (ow : List Value → α → Prop) (v : Value) (l : List α) : Prop :=
  ∃ rows : List (List Value), rows.length = l.length ∧ W.ownsRow B te sz v l.length rows.flatten ∧ ∀ j (h : j < l.length) (h' : j < rows.length), rows[j].length = sz ∧ ow rows[j] l[j]
mutual
def OwC (P : Program) (B : Nat) (W : World) : (t : Ty) → TypeId → List Value → t.Den → Prop
  | .int k, _, cs, (a : Int) => cs = [.int k a] ∧ (Lit.int k a).wf = true
  | .bool, _, cs, (x : Bool) => cs = [.bool x]
  | .str, _, cs, (l : List UInt8) => cs = [.string ⟨l.toArray⟩] ∧ l.length ≤ maxLen
  | .slice e, ti, cs, (l : List e.Den) => ∃ te v, P.underlying ti = some (.slice te) ∧ cs = [v] ∧ OwL W B te e.size (OwC P B W e te) v l
  | .struct fs, ti, cs, d => ∃ Fs, P.underlying ti = some (.struct Fs) ∧ OwCs P B W fs Fs.toList cs d
def OwCs (P : Program) (B : Nat) (W : World) : (fs : Tys) → List Field → List Value → fs.Den → Prop
  | .nil, _, cs, _ => cs = []
  | .cons t r, l, cs, d => ∃ f l' c1 c2, l = f :: l' ∧ cs = c1 ++ c2 ∧ c1.length = t.size ∧ OwC P B W t f.type c1 d.1 ∧ OwCs P B W r l' c2 d.2
end
mutual
/-- the element types of the rows within -/
def Ty.rowsOf (P : Program) : Ty → TypeId → List TypeId
  | .slice e, ti => (match P.underlying ti with | some (.slice te) => te :: e.rowsOf P te | _ => [])
  | .struct fs, ti => (match P.underlying ti with | some (.struct Fs) => fs.rowsOf P Fs.toList | _ => [])
  | .int _, _ => []
  | .bool, _ => []
  | .str, _ => []
def Tys.rowsOf (P : Program) : Tys → List Field → List TypeId
  | .nil, _ => []
  | .cons t r, l => (match l with | f :: l' => t.rowsOf P f.type ++ r.rowsOf P l' | [] => [])
end

/-- of the rows of these types at B or above none has turned -/
def Spared (B : Nat) (X : List TypeId) (W W' : World) : Prop := ∀ k c te fz, B ≤ k → te ∈ X → W.heap[k]? = some (.cells c te fz) → W'.heap[k]? = W.heap[k]?
theorem Spared.less {B : Nat} {X Y : List TypeId} {W W' : World} (h : Spared B X W W') (hs : ∀ t ∈ Y, t ∈ X) : Spared B Y W W' := fun k c te fz hk ht => h k c te fz hk (hs te ht)
theorem Spared.of_kept {B : Nat} {X : List TypeId} {W W' : World} {T : Sq.Blocks} (h : Sq.Kept T W W') (hT : ∀ k, B ≤ k → k < W.heap.size → T k) : Spared B X W W' :=
  fun k c te fz hk _ hh => h.block k (hT k hk (Array.getElem?_eq_some_iff.1 hh).1) (Array.getElem?_eq_some_iff.1 hh).1
theorem Spared.below {B : Nat} {X : List TypeId} {W W' : World} (h : Below W.heap.size W W') : Spared B X W W' :=
  fun k c te fz hk _ hh => h.block k (Array.getElem?_eq_some_iff.1 hh).1
theorem Spared.alloc {B : Nat} {X : List TypeId} (W : World) (o : Go.Obj) : Spared B X W (W.alloc o) := Spared.below ((Below.refl _ _).alloc (Nat.le_refl _) _)
/-- an append to a row of another type -/
theorem Spared.grown {B B' : Nat} {X : List TypeId} {W W' : World} {te : TypeId} {sz m : Nat} {v : Value} {xs : List Value} (hr : W.ownsRow B' te sz v m xs) (hg : W.grownBy W' v.ownBlock) (hX : te ∉ X) : Spared B X W W' := by
  intro k c t' fz hk ht hh
  refine hg.block k (Array.getElem?_eq_some_iff.1 hh).1 (fun e => ?_)
  rcases hr.2 with ⟨rfl, _⟩ | ⟨g, cap, cur, rfl, _, hgb, _⟩
  · simp [Value.ownBlock] at e
  · obtain rfl : k = g := by simpa [Value.ownBlock] using e
    rw [hgb] at hh
    injection hh with hh
    injection hh with _ h2 _
    exact hX (h2 ▸ ht)
/-- a store into an object of another type -/
theorem Spared.set {B : Nat} {X : List TypeId} {W : World} {b : Nat} {t : TypeId} {cs : List Value} (ho : Ob.Obj W b t cs) (j : Nat) (u : Value) (hX : t ∉ X) : Spared B X W (W.setCell ⟨b, j, none⟩ u) := by
  intro k c t' fz hk ht hh
  refine Below.heap_setCell _ _ _ _ (fun e => ?_)
  simp only at e
  subst e
  have := (show W.heap[k]? = _ from ho).symm.trans hh
  injection this with h1
  injection h1 with _ h2 _
  exact hX (h2 ▸ ht)
theorem row_spared {B : Nat} {X : List TypeId} {W W' : World} {te : TypeId} {sz m : Nat} {v : Value} {xs : List Value} (h : W.ownsRow B te sz v m xs) (hs : Spared B X W W') (ht : te ∈ X) : W'.ownsRow B te sz v m xs := by
  rcases h with ⟨h0, h1 | ⟨g, cap, cur, h1, h2, h3, h4⟩⟩
  · exact ⟨h0, .inl h1⟩
  · exact ⟨h0, .inr ⟨g, cap, cur, h1, h2, (hs g _ te _ h2 ht h3).trans h3, h4⟩⟩
theorem row_lower {W : World} {B B' : Nat} {e : TypeId} {sz m : Nat} {v : Value} {xs : List Value} (h : W.ownsRow B e sz v m xs) (hB : B' ≤ B) : W.ownsRow B' e sz v m xs := by
  rcases h with ⟨h0, h1 | ⟨g, cap, cur, h1, h2, h3, h4⟩⟩
  · exact ⟨h0, .inl h1⟩
  · exact ⟨h0, .inr ⟨g, cap, cur, h1, Nat.le_trans hB h2, h3, h4⟩⟩
mutual
theorem OwC.spared {P : Program} {B : Nat} {W W' : World} : ∀ (t : Ty) {ti : TypeId} {cs : List Value} {d : t.Den}, OwC P B W t ti cs d → Spared B (t.rowsOf P ti) W W' → OwC P B W' t ti cs d
  | .int k, _, cs, d, h, _ => h
  | .bool, _, cs, d, h, _ => h
  | .str, _, cs, d, h, _ => h
  | .slice e, ti, cs, d, h, hs => by
    obtain ⟨te, v, hu, h1, rows, h2, h3, h4⟩ := h
    have hro : (Ty.slice e).rowsOf P ti = te :: e.rowsOf P te := by simp only [Ty.rowsOf, hu]
    rw [hro] at hs
    exact ⟨te, v, hu, h1, rows, h2, row_spared h3 hs (List.mem_cons_self ..), fun j hj hj' => ⟨(h4 j hj hj').1, OwC.spared e (h4 j hj hj').2 (hs.less (fun t ht => List.mem_cons_of_mem _ ht))⟩⟩
  | .struct fs, ti, cs, d, h, hs => by
    obtain ⟨Fs, hu, h⟩ := h
    have hro : (Ty.struct fs).rowsOf P ti = fs.rowsOf P Fs.toList := by simp only [Ty.rowsOf, hu]
    rw [hro] at hs
    exact ⟨Fs, hu, OwCs.spared fs h hs⟩
theorem OwCs.spared {P : Program} {B : Nat} {W W' : World} : ∀ (fs : Tys) {l : List Field} {cs : List Value} {d : fs.Den}, OwCs P B W fs l cs d → Spared B (fs.rowsOf P l) W W' → OwCs P B W' fs l cs d
  | .nil, l, cs, d, h, _ => h
  | .cons t r, l, cs, d, h, hs => by
    obtain ⟨f, l', c1, c2, rfl, h2, h3, h4, h5⟩ := h
    have hro : (Tys.cons t r).rowsOf P (f :: l') = t.rowsOf P f.type ++ r.rowsOf P l' := rfl
    rw [hro] at hs
    exact ⟨f, l', c1, c2, rfl, h2, h3, OwC.spared t h4 (hs.less (fun t ht => List.mem_append_left _ ht)), OwCs.spared r h5 (hs.less (fun t ht => List.mem_append_right _ ht))⟩
end
mutual
theorem OwC.lower {P : Program} {B B' : Nat} {W : World} (hB : B' ≤ B) : ∀ (t : Ty) {ti : TypeId} {cs : List Value} {d : t.Den}, OwC P B W t ti cs d → OwC P B' W t ti cs d
  | .int k, _, cs, d, h => h
  | .bool, _, cs, d, h => h
  | .str, _, cs, d, h => h
  | .slice e, ti, cs, d, h => by
    obtain ⟨te, v, hu, h1, rows, h2, h3, h4⟩ := h
    exact ⟨te, v, hu, h1, rows, h2, row_lower h3 hB, fun j hj hj' => ⟨(h4 j hj hj').1, OwC.lower hB e (h4 j hj hj').2⟩⟩
  | .struct fs, ti, cs, d, h => by
    obtain ⟨Fs, hu, h⟩ := h
    exact ⟨Fs, hu, OwCs.lower hB fs h⟩
theorem OwCs.lower {P : Program} {B B' : Nat} {W : World} (hB : B' ≤ B) : ∀ (fs : Tys) {l : List Field} {cs : List Value} {d : fs.Den}, OwCs P B W fs l cs d → OwCs P B' W fs l cs d
  | .nil, l, cs, d, h => h
  | .cons t r, l, cs, d, h => by
    obtain ⟨f, l', c1, c2, rfl, h2, h3, h4, h5⟩ := h
    exact ⟨f, l', c1, c2, rfl, h2, h3, OwC.lower hB t h4, OwCs.lower hB r h5⟩
end
theorem flatten_get {sz : Nat} : ∀ (rows : List (List Value)), (∀ j (h : j < rows.length), rows[j].length = sz) → ∀ j (h : j < rows.length) k, k < sz → rows.flatten[j * sz + k]? = rows[j][k]?
  | [], _, j, h, _, _ => by simp at h
  | r :: rs, hl, 0, _, k, hk => by
    have h0 := hl 0 (by simp)
    simp only [List.getElem_cons_zero] at h0
    rw [List.flatten_cons, Nat.zero_mul, Nat.zero_add, List.getElem?_append_left (by omega)]
    rfl
  | r :: rs, hl, j + 1, h, k, hk => by
    have h0 := hl 0 (by simp)
    simp only [List.getElem_cons_zero] at h0
    have := flatten_get rs (fun i hi => by have := hl (i + 1) (by simpa using hi); simpa using this) j (by simpa using h) k hk
    rw [List.flatten_cons, List.getElem?_append_right (by rw [h0, Nat.succ_mul]; omega), h0, show (j + 1) * sz + k - sz = j * sz + k by rw [Nat.succ_mul]; omega]
    exact this
theorem flatten_len {sz : Nat} : ∀ (rows : List (List Value)), (∀ j (h : j < rows.length), rows[j].length = sz) → rows.flatten.length = rows.length * sz
  | [], _ => by simp
  | r :: rs, hl => by
    have h0 := hl 0 (by simp)
    simp only [List.getElem_cons_zero] at h0
    rw [List.flatten_cons, List.length_append, h0, flatten_len rs (fun i hi => by have := hl (i + 1) (by simpa using hi); simpa using this), List.length_cons, Nat.succ_mul]
    omega
theorem row_at {W : World} {B : Nat} {te : TypeId} {sz m : Nat} {v : Value} {xs : List Value} (h : W.ownsRow B te sz v m xs) :
    ∃ (a : Option Addr) (cap b : Nat), v = .slice a m cap ∧ m ≤ cap ∧ cap ≤ maxLen ∧ (0 < m → a = some ⟨b, 0, none⟩ ∧ B ≤ b ∧ b < W.heap.size ∧ ∀ j, j < m * sz → W.cell? ⟨b, j, none⟩ = xs[j]?) := by
  have hc := h
  rcases h.2 with ⟨rfl, rfl⟩ | ⟨g, cap, cur, rfl, h2, h3, h4, h5, h6⟩
  · exact ⟨none, 0, 0, rfl, Nat.le_refl _, Nat.zero_le _, fun h => by omega⟩
  · refine ⟨_, cap, g, rfl, h4, h5, fun _ => ⟨rfl, h2, (Array.getElem?_eq_some_iff.1 h3).1, fun j hj => ?_⟩⟩
    exact hc.cellAt j hj
mutual
theorem OwC.rd {P : Program} {B : Nat} {W : World} : ∀ (t : Ty) {ti : TypeId} {cs : List Value} {d : t.Den}, OwC P B W t ti cs d → RdC W.heap.size W t cs d
  | .int k, _, cs, d, h => h
  | .bool, _, cs, d, h => h
  | .str, _, cs, d, h => h
  | .slice e, ti, cs, d, h => by
    obtain ⟨te, v, hu, rfl, rows, h2, h3, h4⟩ := h
    obtain ⟨a, cap, b, rfl, g1, g2, g3⟩ := row_at h3
    refine ⟨a, cap, b, 0, rfl, g1, g2, fun h => ⟨(g3 h).1, (g3 h).2.2.1⟩, fun j hj => ?_⟩
    have hj' : j < rows.length := by omega
    obtain ⟨k1, k2⟩ := h4 j hj hj'
    refine ⟨rows[j], k1, fun k hk => ?_, OwC.rd e k2⟩
    have hlt : j * e.size + k < d.length * e.size := by
      have : (j + 1) * e.size ≤ d.length * e.size := Nat.mul_le_mul_right _ (by omega)
      rw [Nat.succ_mul] at this; omega
    rw [Nat.zero_add, (g3 (by omega)).2.2.2 _ hlt, flatten_get rows (fun i hi => (h4 i (by omega) hi).1) j hj' k hk]
  | .struct fs, ti, cs, d, h => by
    obtain ⟨Fs, hu, h⟩ := h
    exact OwCs.rd fs h
theorem OwCs.rd {P : Program} {B : Nat} {W : World} : ∀ (fs : Tys) {l : List Field} {cs : List Value} {d : fs.Den}, OwCs P B W fs l cs d → RdCs W.heap.size W fs cs d
  | .nil, l, cs, d, h => h
  | .cons t r, l, cs, d, h => by
    obtain ⟨f, l', c1, c2, rfl, h2, h3, h4, h5⟩ := h
    exact ⟨c1, c2, h2, h3, OwC.rd t h4, OwCs.rd r h5⟩
end
theorem OwL.nil {W : World} {B : Nat} {te : TypeId} {sz : Nat} {α : Type} {ow : List Value → α → Prop} : OwL W B te sz ow (.slice none 0 0) ([] : List α) :=
  ⟨[], rfl, World.ownsRow_nil _ _ _ _, fun j h => by simp at h⟩
/-- behind the append of one element: its row may lie elsewhere now -/
theorem OwL.snoc {P : Program} {W W2 : World} {B : Nat} {te : TypeId} {e : Ty} {v v2 : Value} {l : List e.Den} {rows : List (List Value)} {cs : List Value} {x : e.Den}
    (hr : rows.length = l.length) (hel : ∀ j (h : j < l.length) (h' : j < rows.length), rows[j].length = e.size ∧ OwC P B W e te rows[j] l[j]) (hx : OwC P B W e te cs x) (hcs : cs.length = e.size)
    (hown : W2.ownsRow B te e.size v2 (l.length + 1) (rows.flatten ++ cs)) (hs : Spared B (e.rowsOf P te) W W2) : OwL W2 B te e.size (OwC P B W2 e te) v2 (l ++ [x]) := by
  refine ⟨rows ++ [cs], by simp [hr], ?_, fun j h h' => ?_⟩
  · rw [List.length_append, List.length_singleton, List.flatten_append]
    simpa using hown
  · by_cases hj : j < l.length
    · rw [List.getElem_append_left hj, List.getElem_append_left (by omega)]
      exact ⟨(hel j hj (by omega)).1, OwC.spared e (hel j hj (by omega)).2 hs⟩
    · obtain rfl : j = l.length := by simp at h; omega
      rw [List.getElem_append_right (Nat.le_refl _), List.getElem_append_right (by omega)]
      simp only [Nat.sub_self, List.getElem_cons_zero, hr]
      exact ⟨hcs, OwC.spared e hx hs⟩
end Gn
end Go.Proofs.YtoldjbgojjafdaaGreatDoor

/-
  Plain mathematics of chapter 5 (wal): puts, batches, their loads; a load tells its batch. No program is named here.
-/
namespace Go.Proofs.YtoldjbgojjafdaaGreatDoor
namespace Cd
/-- what is read as a number is just that number's bytes -/
theorem takeGo_canon (l : List UInt8) : ∀ (i acc n j : Nat), i ≤ 9 → takeGo l i acc = (n, j, 0) → ∃ m, n = acc + m * 128 ^ i ∧ j = i + (putU m).length ∧ l = putU m ++ l.drop (putU m).length ∧ (0 < i → m ≠ 0) := by
  induction l with
  | nil => intro i acc n j _ h; simp [takeGo] at h
  | cons c r ih =>
    intro i acc n j hi h
    by_cases hbad : (i = 9 ∧ 1 < c.toNat) ∨ (0 < i ∧ c.toNat = 0)
    · rw [go_bad hbad] at h; simp at h
    · have hcb := c.toNat_lt
      by_cases hc : c.toNat < 128
      · rw [go_last hbad hc] at h
        have hp : putU c.toNat = [c] := by rw [putU, if_pos hc]; simp
        refine ⟨c.toNat, ?_, ?_, ?_, fun h0 e => hbad (.inr ⟨h0, e⟩)⟩
        · have := congrArg (·.1) h; simp only at this; rw [← this, Nat.mod_eq_of_lt hc]
        · have := congrArg (·.2.1) h; simp only at this; rw [hp]; exact this.symm
        · rw [hp]; rfl
      · rw [go_more hbad (by omega)] at h
        have hi9 : i + 1 ≤ 9 := by
          by_cases h9 : i = 9
          · exact absurd (.inl ⟨h9, by omega⟩) hbad
          · omega
        obtain ⟨m', h1, h2, h3, h4⟩ := ih (i + 1) _ n j hi9 h
        have hm0 := h4 (by omega)
        refine ⟨c.toNat % 128 + 128 * m', ?_, ?_, ?_, fun _ => by omega⟩
        · rw [h1, pow_s, Nat.add_mul, ← Nat.add_assoc]; congr 1; rw [← Nat.mul_assoc, Nat.mul_comm m' 128]
        · have e : putU (c.toNat % 128 + 128 * m') = UInt8.ofNat ((c.toNat % 128 + 128 * m') % 128 + 128) :: putU ((c.toNat % 128 + 128 * m') / 128) := by rw [putU, if_neg (by omega)]
          rw [e, show (c.toNat % 128 + 128 * m') / 128 = m' by omega, List.length_cons, h2]; omega
        · have e : putU (c.toNat % 128 + 128 * m') = UInt8.ofNat ((c.toNat % 128 + 128 * m') % 128 + 128) :: putU ((c.toNat % 128 + 128 * m') / 128) := by rw [putU, if_neg (by omega)]
          have ec : UInt8.ofNat ((c.toNat % 128 + 128 * m') % 128 + 128) = c := by
            rw [show (c.toNat % 128 + 128 * m') % 128 + 128 = c.toNat by omega]; simp
          rw [e, ec, show (c.toNat % 128 + 128 * m') / 128 = m' by omega, List.length_cons, List.drop_succ_cons, List.cons_append, ← h3]
theorem takeU_canon {l : List UInt8} {n k : Nat} (h : takeU l = (n, k, 0)) : l = putU n ++ l.drop k := by
  obtain ⟨m, h1, h2, h3, _⟩ := takeGo_canon l 0 0 n k (by omega) h
  obtain rfl : n = m := by simpa using h1
  rw [show k = (putU n).length by omega]
  exact h3
theorem takeT_canon {l t : List UInt8} {most : Int} {k : Nat} (h : takeT l most = (t, k, 0)) : l = putT t ++ l.drop k := by
  obtain ⟨n, k0, e, hu⟩ : ∃ n k0 e, takeU l = (n, k0, e) := ⟨_, _, _, rfl⟩
  by_cases he : e = 0
  · subst he
    have hl := (takeU_ok l).2.2.1
    rw [hu] at hl
    simp only at hl
    by_cases h1 : most.toNat < n
    · rw [takeT_most hu h1] at h; simp at h
    · by_cases h2 : l.length - k0 < n
      · rw [takeT_more hu (by omega) h2] at h; simp at h
      · rw [takeT_text hu (by omega) (by omega)] at h
        obtain rfl : (l.drop k0).take n = t := congrArg (·.1) h
        obtain rfl : k0 + n = k := congrArg (·.2.1) h
        have hc := takeU_canon hu
        unfold putT
        have hlen : ((l.drop k0).take n).length = n := by rw [List.length_take, List.length_drop]; omega
        rw [hlen, List.append_assoc, ← List.drop_drop, List.take_append_drop]
        exact hc
  · rw [takeT_err hu he] at h
    exact absurd (congrArg (·.2.2) h) he
end Cd

namespace Wa
open Fi (Dat TkS tkNum tkText)
abbrev putT : Gn.Ty := .struct (.cons .str (.cons .str (.cons .bool .nil)))
abbrev batchT : Gn.Ty := .struct (.cons (.int .u64) (.cons (.slice putT) .nil))
/-- a put: its key, its value, whether it takes away -/
abbrev Pt := List UInt8 × List UInt8 × Bool × Unit
abbrev Bt := Int × List Pt × Unit
/-- P5.2: may a put be? -/
def mayB (p : Pt) : Bool := decide (1 ≤ p.1.length) && decide (p.1.length ≤ 96) && decide (p.2.1.length ≤ 16384) && (!p.2.2.1 || decide (p.2.1 = []))
/-- P5.3: a put as bytes -/
def putB (p : Pt) : Dat := if p.2.2.1 = true then 1 :: Cd.putT p.1 else 0 :: (Cd.putT p.1 ++ Cd.putT p.2.1)
def load (seq : Nat) (l : List Pt) : Dat := Cd.putU seq ++ Cd.putU l.length ++ l.flatMap putB
def MaxSeq : Nat := 1125899906842624
/-- P5.2: Check -/
def check (l : List Pt) : Nat := if l.length ≤ 256 ∧ (∀ p ∈ l, mayB p = true) ∧ (load MaxSeq l).length ≤ 262144 then 0 else 1
/-- P5.3: may a batch be? -/
def Right (b : Bt) : Prop := check b.2.1 = 0 ∧ 0 < b.2.1.length ∧ 1 ≤ b.1 ∧ b.1 ≤ MaxSeq ∧ b.1 + b.2.1.length - 1 ≤ MaxSeq
instance (b : Bt) : Decidable (Right b) := by unfold Right; infer_instance
/-- P5.3: Encode -/
def encode (b : Bt) : Dat × Nat := if Right b then Fr.put 2 (load b.1.toNat b.2.1) else ([], 1)
def IsLoad (l : Dat) (b : Bt) : Prop := Right b ∧ load b.1.toNat b.2.1 = l
open Classical in
/-- P5.4: Decode -/
noncomputable def decode (l : Dat) : Option Bt := if h : ∃ b, IsLoad l b then some h.choose else none
def last (b : Bt) : Int := b.1 + b.2.1.length - 1
/-- P5.5, over the frames that stand one behind the other: each with its place; the place behind all -/
noncomputable def repGo : List (Nat × (UInt8 × Dat)) → Int → Nat → List Bt × Nat
  | [], _, e => ([], e)
  | x :: r, seq, e =>
    match (if x.2.1 = 2 then decode x.2.2 else none) with
    | some b => if seq < b.1 then (b :: (repGo r (last b) e).1, (repGo r (last b) e).2) else ([], x.1)
    | none => ([], x.1)
noncomputable def replay (s : Dat) : List Bt × Nat := repGo (Fr.allGo s 0).1 0 (Fr.allGo s 0).2

/-! ### a load tells its batch -/
theorem putB_inj {p q : Pt} {x y : Dat} (hp : mayB p = true) (hq : mayB q = true) (h : putB p ++ x = putB q ++ y) : p = q ∧ x = y := by
  obtain ⟨pk, pv, pd, _⟩ := p
  obtain ⟨qk, qv, qd, _⟩ := q
  simp [mayB] at hp hq
  cases pd <;> cases qd <;> simp only [putB, if_true, if_false, Bool.false_eq_true, List.cons_append] at h
  · have h' := List.cons.inj h
    have h2 := h'.2
    rw [List.append_assoc, List.append_assoc] at h2
    obtain ⟨e1, h3⟩ := Fi.putT_inj (by omega) (by omega) h2
    obtain ⟨e2, h4⟩ := Fi.putT_inj (by omega) (by omega) h3
    exact ⟨by rw [e1, e2], h4⟩
  · exact absurd (List.cons.inj h).1 (by decide)
  · exact absurd (List.cons.inj h).1 (by decide)
  · obtain ⟨e1, h3⟩ := Fi.putT_inj (by omega) (by omega) (List.cons.inj h).2
    have v1 := hp.2
    have v2 := hq.2
    simp at v1 v2
    exact ⟨by rw [e1, v1, v2], h3⟩
theorem puts_inj : ∀ {L L' : List Pt} {x y : Dat}, L.length = L'.length → (∀ p ∈ L, mayB p = true) → (∀ p ∈ L', mayB p = true) → L.flatMap putB ++ x = L'.flatMap putB ++ y → L = L' ∧ x = y
  | [], [], x, y, _, _, _, h => ⟨rfl, by simpa using h⟩
  | [], q :: r, _, _, hl, _, _, _ => by simp at hl
  | p :: r, [], _, _, hl, _, _, _ => by simp at hl
  | p :: r, q :: r', x, y, hl, hp, hq, h => by
    rw [List.flatMap_cons, List.flatMap_cons, List.append_assoc, List.append_assoc] at h
    obtain ⟨h1, h2⟩ := putB_inj (hp p (List.mem_cons_self ..)) (hq q (List.mem_cons_self ..)) h
    obtain ⟨h3, h4⟩ := puts_inj (by simpa using hl) (fun z hz => hp z (List.mem_cons_of_mem _ hz)) (fun z hz => hq z (List.mem_cons_of_mem _ hz)) h2
    exact ⟨by rw [h1, h3], h4⟩
theorem check_ok {l : List Pt} (h : check l = 0) : l.length ≤ 256 ∧ (∀ p ∈ l, mayB p = true) ∧ (load MaxSeq l).length ≤ 262144 := by
  unfold check at h
  split at h
  · assumption
  · cases h
theorem isLoad_same {l : Dat} {b c : Bt} (h1 : IsLoad l b) (h2 : IsLoad l c) : b = c := by
  obtain ⟨⟨r1, r2, r3, r4, r5⟩, e1⟩ := h1
  obtain ⟨⟨s1, s2, s3, s4, s5⟩, e2⟩ := h2
  obtain ⟨bs, bp, _⟩ := b
  obtain ⟨cs, cp, _⟩ := c
  simp only at *
  obtain ⟨k1, k2, _⟩ := check_ok r1
  obtain ⟨m1, m2, _⟩ := check_ok s1
  have hM : MaxSeq = 1125899906842624 := rfl
  rw [← e2] at e1
  unfold load at e1
  rw [List.append_assoc, List.append_assoc] at e1
  obtain ⟨a1, a2⟩ := Fi.putU_inj (by omega) (by omega) e1
  obtain ⟨b1, b2⟩ := Fi.putU_inj (by omega) (by omega) a2
  obtain ⟨c1, _⟩ := puts_inj (x := []) (y := []) b1 k2 m2 (by simpa using b2)
  rw [c1, show bs = cs by omega]
theorem decode_iff {l : Dat} {b : Bt} : decode l = some b ↔ IsLoad l b := by
  unfold decode
  constructor
  · intro h
    split at h
    · rename_i hx
      rw [← Option.some.inj h]
      exact hx.choose_spec
    · cases h
  · intro h
    have hx : ∃ b, IsLoad l b := ⟨b, h⟩
    rw [dif_pos hx]
    exact congrArg some (isLoad_same hx.choose_spec h)
theorem decode_none {l : Dat} : decode l = none ↔ ∀ b, ¬ IsLoad l b := by
  unfold decode
  constructor
  · intro h b hb
    rw [dif_pos ⟨b, hb⟩] at h
    cases h
  · intro h
    rw [dif_neg (fun ⟨b, hb⟩ => h b hb)]

/-! ### reading one, thing by thing, as the document does -/
def rdPut (s : TkS) : Pt × TkS :=
  if (tkNum 1 s).1 = 0 then (((tkText 96 (tkNum 1 s).2).1, (tkText 16384 (tkText 96 (tkNum 1 s).2).2).1, false, ()), (tkText 16384 (tkText 96 (tkNum 1 s).2).2).2)
  else (((tkText 96 (tkNum 1 s).2).1, [], true, ()), (tkText 96 (tkNum 1 s).2).2)
def rdPuts : Nat → List Pt → TkS → List Pt × TkS
  | 0, l, s => (l, s)
  | k + 1, l, s => if s.2 = true then (l, s) else rdPuts k (l ++ [(rdPut s).1]) (rdPut s).2
def rdCount (s : TkS) : Nat × TkS := tkNum 256 (tkNum MaxSeq s).2
def rdAll (s : TkS) : List Pt × TkS := rdPuts (rdCount s).1 [] (rdCount s).2
def rdB (l : Dat) : Bt := (((tkNum MaxSeq (l, false)).1 : Int), (rdAll (l, false)).1, ())
def decR (l : Dat) : Option Bt := if (rdAll (l, false)).2 = ([], false) ∧ Right (rdB l) then some (rdB l) else none

theorem tkNum_sound {most : Nat} {s : TkS} (h : (tkNum most s).2.2 = false) : s.2 = false ∧ s.1 = Cd.putU (tkNum most s).1 ++ (tkNum most s).2.1 := by
  unfold tkNum at h ⊢
  split at h
  · simp at h
  · rename_i hx
    rw [if_neg hx]
    simp only at h ⊢
    refine ⟨h, Cd.takeU_canon (k := (Cd.takeU s.1).2.1) ?_⟩
    have h0 : (Cd.takeU s.1).2.2 = 0 := by
      by_cases h0 : (Cd.takeU s.1).2.2 = 0
      · exact h0
      · exact absurd (.inr (.inl h0)) hx
    rw [← h0]
theorem tkText_sound {most : Nat} {s : TkS} (h : (tkText most s).2.2 = false) : s.2 = false ∧ s.1 = Cd.putT (tkText most s).1 ++ (tkText most s).2.1 := by
  unfold tkText at h ⊢
  split at h
  · simp at h
  · rename_i hx
    rw [if_neg hx]
    simp only at h ⊢
    refine ⟨h, Cd.takeT_canon (most := most) (k := (Cd.takeT s.1 most).2.1) ?_⟩
    have h0 : (Cd.takeT s.1 most).2.2 = 0 := by
      by_cases h0 : (Cd.takeT s.1 most).2.2 = 0
      · exact h0
      · exact absurd (.inr h0) hx
    rw [← h0]
theorem putU_0 : Cd.putU 0 = [0] := by rw [Cd.putU]; rfl
theorem putU_1 : Cd.putU 1 = [1] := by rw [Cd.putU]; rfl
theorem rdPut_sound {s : TkS} (h : (rdPut s).2.2 = false) : s.2 = false ∧ s.1 = putB (rdPut s).1 ++ (rdPut s).2.1 := by
  unfold rdPut at h ⊢
  split at h
  · rename_i hx
    rw [if_pos hx]
    simp only at h ⊢
    obtain ⟨h1, e1⟩ := tkText_sound h
    obtain ⟨h2, e2⟩ := tkText_sound h1
    obtain ⟨h3, e3⟩ := tkNum_sound h2
    refine ⟨h3, ?_⟩
    rw [hx, putU_0] at e3
    rw [e3, e2, e1]
    simp [putB]
  · rename_i hx
    rw [if_neg hx]
    simp only at h ⊢
    obtain ⟨h2, e2⟩ := tkText_sound h
    obtain ⟨h3, e3⟩ := tkNum_sound h2
    have hle := Fi.tkNum_le 1 s
    refine ⟨h3, ?_⟩
    rw [show (tkNum 1 s).1 = 1 by omega, putU_1] at e3
    rw [e3, e2]
    simp [putB]
theorem rdPuts_sound : ∀ (k : Nat) (l : List Pt) (s : TkS), (rdPuts k l s).2.2 = false → s.2 = false ∧ ∃ L, (rdPuts k l s).1 = l ++ L ∧ L.length = k ∧ s.1 = L.flatMap putB ++ (rdPuts k l s).2.1
  | 0, l, s, h => ⟨h, [], by simp [rdPuts], rfl, by simp [rdPuts]⟩
  | k + 1, l, s, h => by
    rw [rdPuts] at h ⊢
    split at h
    · rename_i hs; rw [hs] at h; cases h
    · rename_i hs
      rw [if_neg hs]
      obtain ⟨h1, L, e1, e2, e3⟩ := rdPuts_sound k _ _ h
      obtain ⟨h2, e4⟩ := rdPut_sound h1
      exact ⟨h2, (rdPut s).1 :: L, by rw [e1, List.append_assoc]; rfl, by rw [List.length_cons, e2], by rw [List.flatMap_cons, List.append_assoc, ← e3]; exact e4⟩
theorem rdPut_put {p : Pt} {x : Dat} (hp : mayB p = true) : rdPut (putB p ++ x, false) = (p, (x, false)) := by
  obtain ⟨pk, pv, pd, _⟩ := p
  simp [mayB] at hp
  cases pd
  · have e1 : tkNum 1 (putB (pk, pv, false, ()) ++ x, false) = (0, (Cd.putT pk ++ (Cd.putT pv ++ x), false)) := by
      have := Fi.tkNum_put (most := 1) (a := 0) (Cd.putT pk ++ (Cd.putT pv ++ x)) (by omega) (by omega)
      rw [putU_0] at this
      simpa [putB] using this
    unfold rdPut
    rw [e1]
    simp only [if_true]
    rw [Fi.tkText_put _ (by omega) (by omega)]
    simp only
    rw [Fi.tkText_put _ (by omega) (by omega)]
  · have e1 : tkNum 1 (putB (pk, pv, true, ()) ++ x, false) = (1, (Cd.putT pk ++ x, false)) := by
      have := Fi.tkNum_put (most := 1) (a := 1) (Cd.putT pk ++ x) (by omega) (by omega)
      rw [putU_1] at this
      simpa [putB] using this
    unfold rdPut
    rw [e1]
    simp only
    rw [if_neg (by omega), Fi.tkText_put _ (by omega) (by omega)]
    have := hp.2
    simp at this
    rw [this]
theorem rdPuts_put : ∀ (L l : List Pt) (x : Dat), (∀ p ∈ L, mayB p = true) → rdPuts L.length l (L.flatMap putB ++ x, false) = (l ++ L, (x, false))
  | [], l, x, _ => by simp [rdPuts]
  | p :: r, l, x, h => by
    rw [List.length_cons, rdPuts, if_neg (by simp), List.flatMap_cons, List.append_assoc, rdPut_put (h p (List.mem_cons_self ..))]
    simp only
    rw [rdPuts_put r _ x (fun q hq => h q (List.mem_cons_of_mem _ hq)), List.append_assoc]
    rfl
theorem decR_decode (l : Dat) : decR l = decode l := by
  have hM : MaxSeq = 1125899906842624 := rfl
  cases hd : decode l with
  | some b =>
    obtain ⟨hr, hl⟩ := decode_iff.1 hd
    have hr0 := hr
    obtain ⟨r1, r2, r3, r4, r5⟩ := hr
    obtain ⟨k1, k2, _⟩ := check_ok r1
    have e1 : tkNum MaxSeq (l, false) = (b.1.toNat, (Cd.putU b.2.1.length ++ (b.2.1.flatMap putB ++ []), false)) := by
      rw [← hl]; unfold load
      rw [List.append_assoc, List.append_nil]
      exact Fi.tkNum_put _ (by omega) (by omega)
    have e2 : rdCount (l, false) = (b.2.1.length, (b.2.1.flatMap putB ++ [], false)) := by
      unfold rdCount
      rw [e1]
      exact Fi.tkNum_put _ k1 (by omega)
    have e3 : rdAll (l, false) = (b.2.1, ([], false)) := by
      unfold rdAll
      rw [e2]
      have := rdPuts_put b.2.1 [] [] k2
      simpa using this
    have e4 : rdB l = b := by
      unfold rdB
      rw [e3, e1]
      obtain ⟨bs, bp, _⟩ := b
      simp only at r3 ⊢
      rw [show ((bs.toNat : Nat) : Int) = bs by omega]
    unfold decR
    rw [e3, e4, if_pos ⟨rfl, hr0⟩]
  | none =>
    have hn := decode_none.1 hd
    unfold decR
    split
    · rename_i h
      refine absurd ⟨h.2, ?_⟩ (hn (rdB l))
      have h1 := h.1
      have hb : (rdPuts (rdCount (l, false)).1 [] (rdCount (l, false)).2).2.2 = false := congrArg (·.2) h1
      obtain ⟨g1, L, g2, g3, g4⟩ := rdPuts_sound _ _ _ hb
      have hrest : (rdPuts (rdCount (l, false)).1 [] (rdCount (l, false)).2).2.1 = [] := congrArg (·.1) h1
      rw [hrest, List.append_nil] at g4
      obtain ⟨g5, g6⟩ := tkNum_sound (s := (tkNum MaxSeq (l, false)).2) (most := 256) g1
      obtain ⟨_, g7⟩ := tkNum_sound (s := (l, false)) (most := MaxSeq) g5
      have hL : (rdB l).2.1 = L := by unfold rdB rdAll; rw [g2]; rfl
      unfold load
      rw [hL]
      show Cd.putU (((tkNum MaxSeq (l, false)).1 : Int)).toNat ++ Cd.putU L.length ++ L.flatMap putB = l
      have g7' : l = Cd.putU (tkNum MaxSeq (l, false)).1 ++ (tkNum MaxSeq (l, false)).2.1 := g7
      have hk : L.length = (tkNum 256 (tkNum MaxSeq (l, false)).2).1 := g3
      rw [Int.toNat_natCast, hk, List.append_assoc, ← g4]
      exact (congrArg (Cd.putU (tkNum MaxSeq (l, false)).1 ++ ·) g6).symm.trans g7'.symm
    · rfl
end Wa
end Go.Proofs.YtoldjbgojjafdaaGreatDoor

/-
  codec.join: a range over a function that collects texts.
-/
namespace Go.Proofs.YtoldjbgojjafdaaGreatDoor
open Go.RowKit Go.Shelf
set_option linter.unusedSimpArgs false
set_option linter.unusedVariables false

attribute [local go_sem] Oper.semAt_some

theorem wpListIn_append_own_string {F : Fence} {n' : Nat} {P : Program} {ops : Array Oper} {rest : List Oper} {o : Oper} {a : Act} {Q : Exit → Act → World → Prop} (w : World) (hgd : o.guard = none) (sl x : Operand) (t u : TypeId)
    (ho : o.op = .call { callee := .builtin .append, args := #[sl, x], argTypes := #[t, u] })
    (base : Nat) (e : TypeId) (i : TypeInfo) (ht : P.underlying t = some (.slice e)) (hu : P.underlying u = some .string) (hi : P.info? e = some i) (hz : i.zero = some (.int .u8 0))
    (hsize : i.size = 1) (hby : i.bytes = 1)
    (v : Value) (n : Nat) (xs : List Value) (hs : a.eval sl = v) (hown : w.ownsRow base e 1 v n xs) (s : ByteArray) (hx : a.eval x = .string s)
    (h63 : n + s.size ≤ maxLen) (hbytes : n + s.size ≤ 140737488355328) (hbase : base ≤ w.heap.size)
    (h : ∀ v' w', w'.ownsRow base e 1 v' (n + s.size) (xs ++ Lib.strCells s) → w.grownBy w' v.ownBlock → wpListIn F n' P ops Q rest (a.put o.dst v') w') : wpListIn F n' P ops Q (o :: rest) a w := by
  refine wpListIn_plain hgd fun K hK => ?_
  obtain ⟨v', w', hr, h2, h3, h4⟩ := Lib.run_append_own_string (P := P) w base t u o.type e i ht hu hi hz hsize hby v n xs hown s h63 hbytes hbase
  unfold Oper.wpIn
  refine ⟨?_, ?_⟩
  · simp [Oper.about, ho, resolve, Target.leads, Sem.run_pure]
  · rw [Oper.semAt_plain F _ _ (by rw [ho]; intro c hc'; cases hc')]
    simp [execOp, ho, resolve, invoke, builtin, hs, hx, hr, Result.andThen]
    exact hK _ _ (h v' w' h2 h3)

/-- a text that a range hands on: of at most so many bytes -/
abbrev Piece := { x : List UInt8 // x.length ≤ 1048576 }
def flat (pre : List Piece) : List UInt8 := (pre.map (·.1)).flatten
theorem flat_snoc (pre : List Piece) (x : Piece) : flat (pre ++ [x]) = flat pre ++ x.1 := by simp [flat]
theorem flat_len (pre : List Piece) : (flat pre).length ≤ pre.length * 1048576 := by
  induction pre with
  | nil => simp [flat]
  | cons x r ih =>
    have : flat (x :: r) = x.1 ++ flat r := by simp [flat]
    rw [this, List.length_append, List.length_cons]
    have := x.2
    omega
theorem ownsRow_slice {W : World} {base : Nat} {e : TypeId} {size : Nat} {v : Value} {k : Nat} {xs : List Value} (h : W.ownsRow base e size v k xs) : ∃ ao l cap, v = .slice ao l cap := by
  rcases h.2 with ⟨rfl, _⟩ | ⟨g, cap, _, rfl, _⟩
  · exact ⟨_, _, _, rfl⟩
  · exact ⟨_, _, _, rfl⟩
theorem stops_mono {α : Type} {F : Fence} {n : Nat} {P : Program} {g : Nat} {lb : Array Value} {encs : α → Array Value} {Kp : World → World → Prop} {S Sp : List α → Prop} {N : Nat} {w w0 : World}
    (h : SeqStopsK F n P g lb encs Kp S Sp N w) (hb : Below w.heap.size w w0) : SeqStopsK F n P g lb encs Kp S Sp N w0 :=
  fun l J Jx W hW => h l J Jx W (hb.trans (hW.mono hb.size))

/-- 'Boxed.appended' where the append laid no block of its own ahead -/
theorem Boxed_appended' {W w1 : World} {n₀ B : Nat} {t e : TypeId} {size : Nat} {v v' : Value} {k m : Nat} {xs ys : List Value}
    (hv : Boxed W B t v) (hte : t ≠ e) (hrow : W.ownsRow n₀ e size v k xs) (hn₀ : n₀ ≤ W.heap.size) (hB : n₀ ≤ B)
    (hown' : w1.ownsRow n₀ e size v' m ys) (hgrow : W.grownBy w1 v.ownBlock) :
    Boxed w1 B t v ∧ Boxed (w1.setCell ⟨B, 0, none⟩ v') B t v' ∧ (w1.setCell ⟨B, 0, none⟩ v').ownsRow n₀ e size v' m ys ∧ KeepsOthers W (w1.setCell ⟨B, 0, none⟩ v') ∧ Below n₀ W (w1.setCell ⟨B, 0, none⟩ v') := by
  have hv1 : Boxed w1 B t v := hv.kept hgrow (hv.not_row hte hrow)
  refine ⟨hv1, hv1.set v', hown'.kept (grownBy_setCell' w1 B v') (.inr (hv1.not_row hte hown').symm), ?_, ?_⟩
  · refine (KeepsOthers.of_grownBy hgrow fun j o ej hj => ?_).trans (KeepsOthers.setCell _ _ _)
    rcases hrow.2 with ⟨rfl, _⟩ | ⟨g, cap, cur, rfl, _, hgb, _⟩
    · simp [Value.ownBlock] at ej
    · obtain rfl : g = j := by simpa [Value.ownBlock] using ej
      rw [hgb] at hj; cases hj; rfl
  · refine ((Below.refl n₀ W).grown hgrow hn₀ fun j ej => ?_).setCell (p := ⟨B, 0, none⟩) hB v'
    rcases hrow.2 with ⟨rfl, _⟩ | ⟨g, cap, cur, rfl, hb, _, _⟩
    · simp [Value.ownBlock] at ej
    · obtain rfl : g = j := by simpa [Value.ownBlock] using ej
      exact hb

set_option maxRecDepth 100000 in
set_option maxHeartbeats 2000000 in
/-- join: the pieces one behind the other -/
theorem join_in (F : Fence) (n : Nat) (hf : F.fn 164) (hro : F.round = none) (hn : 3 ≤ n) (gf : Nat) (hgf : F.fn gf) (eg : ∀ args w, (callFunc gf args).run Tryz.prog w = .ok (.enter gf args) w) (lb : Array Value)
    (N : Nat) (hN : N ≤ 4194304) (w : World) {S Sp : List Piece → Prop}
    (hseq : SeqStopsK F (n - 1) Tryz.prog gf lb (fun x : Piece => #[Value.string (Cd.bs x.1)]) (Below w.heap.size) S Sp N w) :
    CallsIn F n Tryz.prog 164 #[.func (.func gf) #[] lb] w fun e W' => ∃ ys, S ys ∧ e = .returned (.string (Cd.bs (flat ys))) ∧ Below w.heap.size w W' := by
  have h1 : 1 ≤ n := by omega
  obtain ⟨i0, hi, hz0, hz1, hz2⟩ := info_parts info_u8
  refine callsIn_of_wp_marks Tryz.func164 rfl hf ?_ hro
  simp only [Tryz.ntmps164, List.size_toArray, List.length_cons, List.length_nil, Nat.reduceAdd, Nat.reduceSub, Array.replicate_succ, Array.replicate_zero, List.push_toArray, List.append_toArray, List.nil_append, List.cons_append]
  gi_wp2
  have bO := Boxed.new w 173 (.slice none 0 0)
  have hB0 : Below w.heap.size w (w.alloc (.cells #[.slice none 0 0] 173)) := (Below.refl _ w).alloc (Nat.le_refl _) _
  refine wpIn_rangeFunc_ownG hro h1 (gf := gf) (lb := lb) rfl hgf eg
    (stops_mono hseq hB0) belowK_t (belowK_b (by simp)) (Below.refl _ _) (fun _ => rfl)
    (fun pre W => (∃ v, Boxed W w.heap.size 173 v ∧ W.ownsRow w.heap.size 5 1 v (flat pre).length (Cd.cs (flat pre)) ∧ True) ∧ Below w.heap.size w W)
    (fun _ _ _ => False)
    (OwnFrom.and (Own.from (holdsRow_own w.heap.size w.heap.size 173 5 1 (fun pre => (flat pre).length) (fun pre => Cd.cs (flat pre)) (fun _ _ => True)) _) (ownFrom_below (Nat.le_refl _) (by simp)))
    (fun _ _ _ _ _ hs _ _ => hs)
    ⟨⟨_, bO, World.ownsRow_nil _ _ _ _, trivial⟩, hB0⟩
    (fun x => { tmps := #[.func (.func gf) #[] lb, undef, .string ⟨#[]⟩, .pointer (some ⟨w.heap.size, 0, none⟩), .string (Cd.bs x.1), .func (.func gf) #[] lb, .string (Cd.bs x.1), undef, undef, undef, undef, undef], defers := [] }) ?assign ?body ?done ?stop
  case assign =>
    intro l x W K hK
    gi_wp2
    exact hK
  case body =>
    rintro l pre x W ⟨⟨v, hv, hrow, _⟩, hB⟩ hlt
    have hc := hv.cell
    have hf := hv.frozen
    have hpl := flat_len pre
    have hx := x.2
    have hsz : (Cd.bs x.1).size = x.1.length := rfl
    have HSZ := Lib.hid hsz
    clear hsz
    have hBs := hB.size
    gi_wp2_with (gi_at_builtin; refine wpListIn_append_own_string _ rfl _ _ 173 9 rfl w.heap.size 5 i0 Tryz.underlying173 Tryz.underlying9 hi hz0 hz1 hz2 _ _ _ rfl hrow (Cd.bs x.1) rfl (by rw [HSZ.out]; unfold maxLen; omega) (by rw [HSZ.out]; omega) hBs ?_; intro v' w1 hown' hgrow; obtain ⟨ao, l', cap', rfl⟩ := ownsRow_slice hown'; obtain ⟨hv1, hv2, hr2, hk2, hb2⟩ := Boxed_appended' hv (by decide) hrow hBs (Nat.le_refl _) hown' hgrow; have hc1 := hv1.cell; have hf1 := hv1.frozen)
    exact ⟨hk2.from _, hb2, ⟨_, hv2, by rw [flat_snoc]; exact Cd.own_app (l' := x.1) rfl rfl hr2, trivial⟩, hB.trans hb2⟩
  case done =>
    rintro D ys W hD hS ⟨⟨v, hv, hrow, _⟩, hB⟩ hK
    have hc := hv.cell
    have hcv := conv_any hrow
    gi_wp2
    refine ⟨by simp, .inl ⟨_, _, rfl, run_takeDeferred hK, ?_⟩⟩
    exact ⟨_, results_tmp rfl _ _ _, ys, hS, rfl, hB.trans (belowK_b (w := w) (Nat.le_refl _) W D _ _ (by simp at hD; omega) hK rfl rfl)⟩
  case stop =>
    rintro D c pre W _ _ h _
    exact h.elim
end Go.Proofs.YtoldjbgojjafdaaGreatDoor

/-
  slices.Values over texts, and PutText, which joins two of them.
-/
namespace Go.Proofs.YtoldjbgojjafdaaGreatDoor
open Go.RowKit Go.Shelf
set_option linter.unusedSimpArgs false
set_option linter.unusedVariables false

attribute [local go_sem] Oper.semAt_some

/-- what has come when k rounds are over: f 0, .., f (k - 1) -/
def upto {α : Type} (f : Nat → α) (k : Nat) : List α := (List.range k).map f
theorem upto_succ {α : Type} (f : Nat → α) (k : Nat) : upto f (k + 1) = upto f k ++ [f k] := by simp [upto, List.range_succ]
theorem upto_length {α : Type} (f : Nat → α) (k : Nat) : (upto f k).length = k := by simp [upto]

set_option maxRecDepth 100000 in
set_option maxHeartbeats 2000000 in
theorem values1_in (F : Fence) (n : Nat) (h7 : F.fn 237) (hro : F.round = none) (hn : 1 ≤ n) (l Bs n₀ b len cap : Nat) (f : Nat → Piece) (hreach : len ≤ 1000000) (hb : b < n₀) (J Jx : List Piece → World → Prop)
    (hY : ∀ pre x W, J pre W → pre.length < len → YieldAt F (n - 1) Tryz.prog l #[.string (Cd.bs x.1)] W fun e W' =>
      (e = .returned (.bool true) ∧ J (pre ++ [x]) W' ∧ Below n₀ W W') ∨ (e = .returned (.bool false) ∧ Jx (pre ++ [x]) W'))
    (W : World) (hBs : W.cell? ⟨Bs, 0, none⟩ = some (.slice (some ⟨b, 0, none⟩) len cap)) (hc : ∀ j, j < len → W.cell? ⟨b, j, none⟩ = some (.string (Cd.bs (f j).1))) (h0 : J [] W) :
    CallsIn F n Tryz.prog 237 #[.func (.yield l) #[] #[], .pointer (some ⟨Bs, 0, none⟩)] W fun e W' => (∃ v, e = .returned v) ∧
      ((∃ ys, ys = upto f len ∧ J ys W') ∨ (∃ pre, True ∧ Jx pre W')) := by
  refine callsIn_of_wp Tryz.func237 rfl h7 ?_ hro
  simp only [Tryz.ntmps237, List.size_toArray, List.length_cons, List.length_nil, Nat.reduceAdd, Nat.reduceSub, Array.replicate_succ, Array.replicate_zero, List.push_toArray, List.append_toArray, List.nil_append, List.cons_append]
  gi_wp2
  gi_loopw [7] (fun i wr => ∃ k : Nat, k ≤ len ∧ i = .int .i64 k ∧ J (upto f k) wr ∧ Below n₀ W wr)
    (fun i _ => len - (intOf i).toNat)
  case atStart => exact ⟨0, Nat.zero_le _, rfl, h0, Below.refl _ _⟩
  case round =>
    obtain ⟨k, hk, rfl, hJs, hnx⟩ := hrel
    have hcx : k < len → wr.cell? ⟨b, k, none⟩ = some (.string (Cd.bs (f k).1)) := fun h => (hnx.cell (p := ⟨b, k, none⟩) hb).trans (hc k h)
    by_cases hlt : k < len
    · obtain ⟨fn, tmps, assign, body, hy, hR⟩ := hY _ (f k) wr hJs (by rw [upto_length]; exact hlt)
      have hcx' := hcx hlt
      gi_wp2
      refine hR.mono ?_
      rintro e W3 (⟨rfl, hJ3, hk3⟩ | ⟨rfl, hJx3⟩)
      · gi_wp2
        go_roundw
        case rel => exact ⟨k + 1, by omega, by simp, by rw [upto_succ]; exact hJ3, hnx.trans hk3⟩
        case measure => simp [intOf]; omega
      · gi_wp2
        refine bodyPost_ret (results_none rfl _ _ _) rfl ?_
        exact ⟨⟨_, rfl⟩, .inr ⟨_, trivial, hJx3⟩⟩
    · obtain rfl : k = len := by omega
      gi_wp2
      go_end0
      exact ⟨⟨_, rfl⟩, .inl ⟨_, rfl, hJs⟩⟩

set_option maxHeartbeats 1000000 in
theorem values_in (F : Fence) (n : Nat) (h5 : F.fn 165) (hro : F.round = none) (a : Option Addr) (len cap : Nat) (w : World) :
    CallsIn F n Tryz.prog 165 #[.slice a len cap] w fun e w' => e = .returned (.func (.func 237) #[] #[.pointer (some ⟨w.heap.size, 0, none⟩)]) ∧ w' = w.alloc (.cells #[.slice a len cap] 86) := by
  refine callsIn_of_wp Tryz.func165 rfl h5 ?_ hro
  simp only [Tryz.ntmps165, List.size_toArray, List.length_cons, List.length_nil, Nat.reduceAdd, Nat.reduceSub, Array.replicate_succ, Array.replicate_zero, List.push_toArray, List.append_toArray, List.nil_append, List.cons_append]
  gi_wp2
  go_ret
  exact ⟨rfl, rfl⟩

theorem values_stops (F : Fence) (n : Nat) (h7 : F.fn 237) (hro : F.round = none) (hn : 1 ≤ n) (Bs n₀ b len cap : Nat) (f : Nat → Piece) (hreach : len ≤ 1000000) (w : World) (hBs : Bs < w.heap.size) (hn₀ : n₀ ≤ w.heap.size) (hb : b < n₀)
    (hc : w.cell? ⟨Bs, 0, none⟩ = some (.slice (some ⟨b, 0, none⟩) len cap)) (hI : ∀ j, j < len → w.cell? ⟨b, j, none⟩ = some (.string (Cd.bs (f j).1))) :
    SeqStopsK F n Tryz.prog 237 #[.pointer (some ⟨Bs, 0, none⟩)] (fun x : Piece => #[Value.string (Cd.bs x.1)]) (Below n₀) (fun ys => ys = upto f len) (fun _ => True) len w := fun l J Jx W hW _ _ hY h0 => by
  have hc' := (hW.cell (p := ⟨Bs, 0, none⟩) hBs).trans hc
  exact values1_in F n h7 hro hn l Bs n₀ b len cap f hreach hb J Jx hY W hc' (fun j hj => (hW.cell (p := ⟨b, j, none⟩) (by show b < _; omega)).trans (hI j hj)) h0

theorem put_join (w1 : World) (p q : Piece) (l : List UInt8) (hq : q.1 = l) :
    Calls Tryz.prog 164 #[.func (.func 237) #[] #[.pointer (some ⟨w1.heap.size + 1, 0, none⟩)]]
      ((w1.alloc (.cells #[.string (Cd.bs p.1), .string (Cd.bs l)] 9)).alloc (.cells #[.slice (some ⟨w1.heap.size, 0, none⟩) 2 2] 86)) fun e w' =>
      e = .returned (.string (Cd.bs (flat (upto (fun j => if j = 0 then p else q) 2)))) ∧ Below w1.heap.size w1 w' := by
  subst hq
  have hst := values_stops Fence.wide 2 trivial rfl (by omega) (w1.heap.size + 1) (w1.heap.size + 2) w1.heap.size 2 2 (fun j => if j = 0 then p else q) (by omega)
    ((w1.alloc (.cells #[.string (Cd.bs p.1), .string (Cd.bs q.1)] 9)).alloc (.cells #[.slice (some ⟨w1.heap.size, 0, none⟩) 2 2] 86))
    (by simp) (by simp) (by omega) (by go_simp) (by
      intro j hj
      match j, hj with
      | 0, _ => go_simp
      | 1, _ => go_simp)
  have h := join_in Fence.wide 3 trivial rfl (by omega) 237 trivial (enters_of Tryz.func237 (by kernel_rfl) rfl) #[.pointer (some ⟨w1.heap.size + 1, 0, none⟩)]
    2 (by omega)
    ((w1.alloc (.cells #[.string (Cd.bs p.1), .string (Cd.bs q.1)] 9)).alloc (.cells #[.slice (some ⟨w1.heap.size, 0, none⟩) 2 2] 86)) (by simpa using hst)
  refine (callsIn_wide.1 h).mono ?_
  rintro e w' ⟨ys, rfl, he, hb⟩
  refine ⟨he, ?_⟩
  exact (((Below.refl w1.heap.size w1).alloc (Nat.le_refl _) _).alloc (by simp) _).trans (hb.mono (by simp; omega))

set_option maxRecDepth 100000 in
set_option maxHeartbeats 2000000 in
theorem putTc_any (s : ByteArray) (w : World) (hs : s.size ≤ 1048576) :
    Calls Tryz.prog 86 #[.string s] w fun e w' => e = .returned (.string (Cd.bs (Cd.putT s.data.toList))) ∧ Below w.heap.size w w' := by
  obtain ⟨l, rfl⟩ : ∃ l, s = Cd.bs l := ⟨s.data.toList, (Lib.mk_data s).symm⟩
  have hl : l.length ≤ 1048576 := hs
  have hU := fun W => putUc_at (l.length : Int) l.length W rfl (by omega)
  have hul := Cd.putU_len10 l.length (by omega)
  have hw : IntKind.u64.wrap (l.length : Int) = l.length := Cd.wrapU_nat (by omega)
  obtain ⟨p, hp⟩ : ∃ p : Piece, p.1 = Cd.putU l.length := ⟨⟨Cd.putU l.length, by omega⟩, rfl⟩
  obtain ⟨q, hq⟩ : ∃ q : Piece, q.1 = l := ⟨⟨l, hl⟩, rfl⟩
  have HE := Lib.hid (show Cd.putT (Cd.bs l).data.toList = flat (upto (fun j => if j = 0 then p else q) 2) by
    simp [upto, List.range, List.range.loop, flat, hp, hq, Cd.putT])
  rw [← hp] at hU
  have HU := Lib.hid hU
  have HQ := Lib.hid hq
  clear hU hp hq hul
  go_enter Tryz.func86, Tryz.ntmps86
  go_wp2_with (first
    | (go_at_call 84; refine (HU.out _).mono ?_; rintro e w1 ⟨rfl, hb1⟩)
    | (go_at_call 165; refine (callsIn_wide.1 (values_in Fence.wide 3 trivial rfl _ 2 2 _)).mono ?_; rintro e w' ⟨rfl, rfl⟩)
    | (go_at_call 164; refine (put_join w1 p q l HQ.out).mono ?_; rintro e w3 ⟨rfl, hb3⟩))
  go_ret
  exact ⟨by rw [HE.out]; rfl, hb1.trans (hb3.mono hb1.size)⟩
end Go.Proofs.YtoldjbgojjafdaaGreatDoor

namespace Go.Proofs.YtoldjbgojjafdaaGreatDoor
open Go.RowKit
set_option linter.unusedSimpArgs false
set_option linter.unusedVariables false

/-- the world of a row of four bytes, written one by one -/
def Row4 (w : World) (g : Nat) (l : List UInt8) : Prop := ∀ j, j < 4 → w.cell? ⟨g, j, none⟩ = some (.int .u8 ((l.getD j 0).toNat : Int)) ∧ w.frozen? ⟨g, j, none⟩ = false
theorem Row4.store {w : World} {g n k : Nat} {x : Value} (h : Row4 w g (Fr.litPart n k)) (hk : k < 4) (hx : x = .int .u8 ((Fr.litByte n k).toNat : Int)) :
    Row4 (w.setCell ⟨g, k, none⟩ x) g (Fr.litPart n (k + 1)) := by
  intro j hj
  rw [World.frozen?_setCell]
  refine ⟨?_, (h j hj).2⟩
  rw [Fr.litPart_get _ _ _ hj]
  by_cases hjk : j = k
  · subst hjk
    rw [World.cell?_setCell_same (h := (h j hj).1), hx, if_pos (by omega)]
  · rw [World.cell?_setCell_other (h := by simp only [ne_eq, Addr.mk.injEq, true_and, and_true]; omega), (h j hj).1, Fr.litPart_get _ _ _ hj]
    by_cases h1 : j < k
    · rw [if_pos h1, if_pos (by omega)]
    · rw [if_neg h1, if_neg (by omega)]
theorem Row4.conv {w : World} {g c : Nat} {l : List UInt8} (h : Row4 w g l) (hl : l.length = 4) : (convert 173 9 (.slice (some ⟨g, 0, none⟩) 4 c)).run Tryz.prog w = .ok (.string (Cd.bs l)) w := by
  have := run_convert_bytes_back (P := Tryz.prog) w 173 9 5 ⟨g, 0, none⟩ c l Tryz.underlying173 Tryz.underlying5 Tryz.underlying9 (fun j hj => by
    have := (h j (by omega)).1
    rw [List.getD_eq_getElem?_getD, List.getElem?_eq_getElem hj] at this
    have hp : (⟨g, 0, none⟩ : Addr).add j = ⟨g, j, none⟩ := by unfold Addr.add; split <;> simp_all
    rw [hp]; simpa using this)
  rwa [hl] at this
theorem Row4.new (w : World) (n : Nat) (T : TypeId) : Row4 (w.alloc (.cells #[.int .u8 0, .int .u8 0, .int .u8 0, .int .u8 0] T)) w.heap.size (Fr.litPart n 0) := by
  intro j hj
  rw [Fr.litPart_zero]
  match j, hj with
  | 0, _ => exact ⟨by go_simp, by go_simp⟩
  | 1, _ => exact ⟨by go_simp, by go_simp⟩
  | 2, _ => exact ⟨by go_simp, by go_simp⟩
  | 3, _ => exact ⟨by go_simp, by go_simp⟩

end Go.Proofs.YtoldjbgojjafdaaGreatDoor
namespace Go.Proofs.YtoldjbgojjafdaaGreatDoor
open Go.RowKit
set_option linter.unusedSimpArgs false
set_option linter.unusedVariables false

/-- string(b) of one byte that lies in a cell -/
theorem conv_cell (W : World) (g : Nat) (x : Int) (c : UInt8) (hx : x = (c.toNat : Int)) (h : W.cell? ⟨g, 0, none⟩ = some (.int .u8 x)) :
    (convert 173 9 (.slice (some ⟨g, 0, none⟩) 1 1)).run Tryz.prog W = .ok (.string (Cd.bs [c])) W := by
  have := run_convert_bytes_back (P := Tryz.prog) W 173 9 5 ⟨g, 0, none⟩ 1 [c] Tryz.underlying173 Tryz.underlying5 Tryz.underlying9 (fun j hj => by
    simp at hj; subst hj
    rw [show (⟨g, 0, none⟩ : Addr).add 0 = ⟨g, 0, none⟩ from by simp [Addr.add], h, hx]; rfl)
  simpa using this

theorem bcell {W w1 : World} (hb : Below W.heap.size W w1) : (∀ b o, b < W.heap.size → w1.cell? ⟨b, o, none⟩ = W.cell? ⟨b, o, none⟩) ∧ (∀ b o, b < W.heap.size → w1.frozen? ⟨b, o, none⟩ = W.frozen? ⟨b, o, none⟩) :=
  ⟨fun b o h => hb.cell (p := ⟨b, o, none⟩) h, fun b o h => hb.frozen (p := ⟨b, o, none⟩) h⟩

end Go.Proofs.YtoldjbgojjafdaaGreatDoor
/-
  The document's answers on batches (tapestryref05): May, Load, Check, Right, Encode, Last.
-/
namespace Go.Proofs.YtoldjbgojjafdaaGreatDoor
open Go.RowKit
set_option linter.unusedSimpArgs false
set_option linter.unusedVariables false
namespace Wa
def u64In (x : Int) : Prop := 0 ≤ x ∧ x < 18446744073709551616
/-- bounds of a put that came in, or was read -/
def PutIn (p : Pt) : Prop := p.1.length ≤ 1048576 ∧ p.2.1.length ≤ 1048576
/-- puts in a row, in blocks below B -/
def Puts (B : Nat) (W : World) (v : Value) (L : List Pt) : Prop :=
  ∃ (a : Option Addr) (cap b off : Nat), v = .slice a L.length cap ∧ (0 < L.length → a = some ⟨b, off, none⟩ ∧ b < B) ∧ ∀ j (h : j < L.length),
    W.cell? ⟨b, off + j * 3, none⟩ = some (.string (Cd.bs L[j].1)) ∧ W.cell? ⟨b, off + j * 3 + 1, none⟩ = some (.string (Cd.bs L[j].2.1)) ∧ W.cell? ⟨b, off + j * 3 + 2, none⟩ = some (.bool L[j].2.2.1)
theorem Puts.below {B : Nat} {W W' : World} {v : Value} {L : List Pt} (h : Puts B W v L) (hb : Below B W W') : Puts B W' v L := by
  obtain ⟨a, cap, b, off, h1, h2, h3⟩ := h
  refine ⟨a, cap, b, off, h1, h2, fun j hj => ?_⟩
  have hl := (h2 (by omega)).2
  obtain ⟨g1, g2, g3⟩ := h3 j hj
  exact ⟨(hb.cell (p := ⟨b, off + j * 3, none⟩) hl).trans g1, (hb.cell (p := ⟨b, off + j * 3 + 1, none⟩) hl).trans g2, (hb.cell (p := ⟨b, off + j * 3 + 2, none⟩) hl).trans g3⟩
theorem Puts.grow {B B' : Nat} {W W' : World} {v : Value} {L : List Pt} (h : Puts B W v L) (hb : Below B W W') (hB : B ≤ B') : Puts B' W' v L := by
  obtain ⟨a, cap, b, off, h1, h2, h3⟩ := h.below hb
  exact ⟨a, cap, b, off, h1, fun h => ⟨(h2 h).1, Nat.lt_of_lt_of_le (h2 h).2 hB⟩, h3⟩
theorem rd_put {B : Nat} {W : World} {cs : List Value} {x : Pt} (h : Gn.RdC B W putT cs x) : cs = [.string (Cd.bs x.1), .string (Cd.bs x.2.1), .bool x.2.2.1] := by
  obtain ⟨c1, d1, rfl, _, ⟨rfl, w1⟩, c2, d2, rfl, _, ⟨rfl, w2⟩, c3, d3, rfl, _, rfl, rfl⟩ := h
  rfl
theorem puts_of_rd {B : Nat} {W : World} {cs : List Value} {L : List Pt} (h : Gn.RdC B W (.slice putT) cs L) : ∃ v, cs = [v] ∧ Puts B W v L := by
  obtain ⟨a, cap, b, off, h1, _, _, h2, h3⟩ := h
  refine ⟨_, h1, a, cap, b, off, rfl, h2, fun j hj => ?_⟩
  obtain ⟨cs', g1, g2, g3⟩ := h3 j hj
  rw [rd_put g3] at g2
  have k0 := g2 0 (by decide)
  have k1 := g2 1 (by decide)
  have k2 := g2 2 (by decide)
  exact ⟨k0, k1, k2⟩

theorem str_app3 (a b c : List UInt8) : Value.string (Cd.bs a ++ Cd.bs b ++ Cd.bs c) = .string (Cd.bs (a ++ b ++ c)) := by rw [ByteArray.mk_append_mk, ByteArray.mk_append_mk]
theorem str_app4 (a b c d : List UInt8) : Value.string (Cd.bs a ++ Cd.bs b ++ Cd.bs c ++ Cd.bs d) = .string (Cd.bs (a ++ b ++ c ++ d)) := by rw [ByteArray.mk_append_mk, ByteArray.mk_append_mk, ByteArray.mk_append_mk]
theorem putB_len {p : Pt} (h : mayB p = true) : (putB p).length ≤ 16600 := by
  obtain ⟨k, v, d, _⟩ := p
  simp [mayB] at h
  have h1 := Cd.putU_len10 k.length (by omega)
  have h2 := Cd.putU_len10 v.length (by omega)
  unfold putB
  split <;> simp [Cd.putT] <;> omega
theorem puts_len : ∀ (L : List Pt), (∀ p ∈ L, mayB p = true) → (L.flatMap putB).length ≤ 16600 * L.length
  | [], _ => by simp
  | p :: r, h => by
    rw [List.flatMap_cons, List.length_append, List.length_cons]
    have := putB_len (h p (List.mem_cons_self ..))
    have := puts_len r (fun q hq => h q (List.mem_cons_of_mem _ hq))
    omega

end Wa
end Go.Proofs.YtoldjbgojjafdaaGreatDoor
/-
  The document's answers on batches (tapestryref05): Check, Right, Encode, Last.
-/
namespace Go.Proofs.YtoldjbgojjafdaaGreatDoor
open Go.RowKit
set_option linter.unusedSimpArgs false
set_option linter.unusedVariables false
namespace Wa
theorem check_long {L : List Pt} (h : ¬ L.length ≤ 256) : check L = 1 := if_neg (fun x => h x.1)
theorem check_bad {L : List Pt} {p : Pt} (hp : p ∈ L) (h : mayB p = false) : check L = 1 := if_neg (fun x => by have := x.2.1 p hp; rw [h] at this; cases this)
theorem check_load {L : List Pt} (h1 : L.length ≤ 256) (h2 : ∀ p ∈ L, mayB p = true) : check L = if (load MaxSeq L).length ≤ 262144 then 0 else 1 := by
  unfold check
  by_cases h : (load MaxSeq L).length ≤ 262144
  · rw [if_pos ⟨h1, h2, h⟩, if_pos h]
  · rw [if_neg (fun x => h x.2.2), if_neg h]
theorem load_len {s : Nat} {L : List Pt} (hs : s < 18446744073709551616) (h1 : L.length ≤ 256) (h2 : ∀ p ∈ L, mayB p = true) : (load s L).length ≤ 4300000 := by
  unfold load
  rw [List.length_append, List.length_append]
  have := puts_len L h2
  have := Cd.putU_len10 s (by omega)
  have := Cd.putU_len10 L.length (by omega)
  omega

/-- bounds of a batch that came in, or was read -/
structure BatchIn (b : Bt) : Prop where
  seq : u64In b.1
  puts : ∀ p ∈ b.2.1, PutIn p
  many : b.2.1.length ≤ 1048576
def rightB (b : Bt) : Bool := decide (Right b)

theorem right_of {b : Bt} (h : rightB b = true) : Right b := of_decide_eq_true h

end Wa
end Go.Proofs.YtoldjbgojjafdaaGreatDoor
/-
  What the library's functions answer at this dump: the library's contracts, one application each.
-/
namespace Go.Proofs
open Go.Shelf
def Tryz.lays169_ren : Go.Shelf.Ren := ⟨fun | 169 => 87 | n => n, fun | 70 => 172 | 9 => 9 | 0 => 0 | 72 => 175 | 37 => 173 | 127 => 278 | 3 => 3 | 5 => 5 | n => n, fun | n => n⟩
theorem Tryz.lays169 : Go.Proofs.Lays.n169 Tryz.prog Tryz.lays169_ren := {
  mixed := by kernel_rfl
  f169 := Tryz.func87.trans (congrArg some (by kernel_rfl))
  t0 := Tryz.underlying0
  a0 := Tryz.isAgg0
  z0 := Tryz.sizeOf0
  v0 := Tryz.zeroValue0
  t3 := Tryz.underlying3
  a3 := Tryz.isAgg3
  z3 := Tryz.sizeOf3
  v3 := Tryz.zeroValue3
  t9 := Tryz.underlying9
  a9 := Tryz.isAgg9
  z9 := Tryz.sizeOf9
  v9 := Tryz.zeroValue9
  t37 := Tryz.underlying173
  a37 := Tryz.isAgg173
  z37 := Tryz.sizeOf173
  v37 := Tryz.zeroValue173
  t70 := Tryz.underlying172
  a70 := Tryz.isAgg172
  z70 := Tryz.sizeOf172
  v70 := Tryz.zeroValue172
  t72 := Tryz.underlying175
  a72 := Tryz.isAgg175
  z72 := Tryz.sizeOf175
  v72 := Tryz.zeroValue175
  t127 := Tryz.underlying278
  a127 := Tryz.isAgg278
  z127 := Tryz.sizeOf278
  v127 := Tryz.zeroValue278 }
theorem Tryz.Builder_Extra_169 : Builder.Extra Tryz.prog Tryz.lays169_ren := {
  sizeBuilder := by kernel_rfl
  liesBuilder := by kernel_rfl
  t5 := Tryz.underlying5
  a5 := Tryz.isAgg5
  z5 := Tryz.sizeOf5
  v5 := Tryz.zeroValue5
  infoByte := by kernel_rfl
  cellsByte := by kernel_rfl
  sizeByte := by kernel_rfl
  neB5 := by decide }
open Go.RowKit in
theorem Tryz.Builder_String_any_k (B b : Nat) (l : List UInt8) (w : World) (h : Lib.IsBuilderF 175 5 B b (Lib.byteCells l) w) (hBw : B ≤ w.heap.size) :
    Calls Tryz.prog 87 #[.pointer (some ⟨b, 0, none⟩)] w fun e w' => e = .returned (.string ⟨l.toArray⟩) ∧ (Lib.IsBuilderF 175 5 B b (Lib.byteCells l) w' ∧ Below B w w' ∧ Lib.OthersKept 5 (some b) w w') := Any.Builder_String_any_k Tryz.lays169 Tryz.Builder_Extra_169 B b l w h hBw
end Go.Proofs

/-
  strings.Builder as this dump has it: the copy check, WriteString, String, on a builder that the call itself has made.
-/
namespace Go.Proofs.YtoldjbgojjafdaaGreatDoor
open Go.RowKit
set_option linter.unusedSimpArgs false
set_option linter.unusedVariables false
namespace Sb
/-- block b is a builder that holds these bytes; all of it lies at B or above -/
def Is (B b : Nat) (l : List UInt8) (W : World) : Prop := Lib.IsBuilderF 175 5 B b (Lib.byteCells l) W
/-- all but the builder's own stands -/
def Rest (b : Nat) (W W' : World) : Prop := Lib.OthersKept 5 (some b) W W'
theorem Rest.refl (b : Nat) (W : World) : Rest b W W := Lib.OthersKept.refl _ _ _
theorem Rest.trans {b : Nat} {W W1 W2 : World} (h : Rest b W W1) (k : Rest b W1 W2) : Rest b W W2 := Lib.OthersKept.trans h k
theorem Rest.below {b : Nat} {W W' : World} (h : Below W.heap.size W W') : Rest b W W' := fun k o hk hb ho => (h.block k (Array.getElem?_eq_some_iff.1 hk).1).trans hk
theorem Rest.obj {b k : Nat} {W W' : World} {t : TypeId} {cs : List Value} (h : Rest b W W') (ho : Ob.Obj W k t cs) (hk : k ≠ b) (ht : t ≠ 5) : Ob.Obj W' k t cs :=
  h k _ ho (fun e => hk (Option.some.inj e)) (fun c fz e => ht (by injection e))
theorem Is.lt {B b : Nat} {l : List UInt8} {W : World} (h : Is B b l W) : b < W.heap.size := h.elim (·.lt) (·.lt)
theorem Is.ge {B b : Nat} {l : List UInt8} {W : World} (h : Is B b l W) : B ≤ b := h.elim (·.1) (·.1)
theorem Is.below {B b : Nat} {l : List UInt8} {W W' : World} (h : Is B b l W) (hb : Below W.heap.size W W') : Is B b l W' := by
  have key : ∀ p, Lib.BuilderAtF 175 5 B b p (Lib.byteCells l) W → Lib.BuilderAtF 175 5 B b p (Lib.byteCells l) W' := fun p ⟨h0, v, h1, h2, h3⟩ => by
    refine ⟨h0, v, (hb.block b (Array.getElem?_eq_some_iff.1 h1).1).trans h1, ?_, h3⟩
    rcases h2 with ⟨h4, h5 | ⟨g, cap, cur, fz, e1, e2, e3, e4⟩⟩
    · exact ⟨h4, .inl h5⟩
    · exact ⟨h4, .inr ⟨g, cap, cur, fz, e1, e2, (hb.block g (Array.getElem?_eq_some_iff.1 e3).1).trans e3, e4⟩⟩
  exact h.imp (key _) (key _)
theorem Is.alloc {B b : Nat} {l : List UInt8} {W : World} (h : Is B b l W) (o : Go.Obj) : Is B b l (W.alloc o) := h.below ((Below.refl _ _).alloc (Nat.le_refl _) _)
theorem Is.drew {B b : Nat} {l : List UInt8} {W : World} (h : Is B b l W) : Is B b l W.drew := h.below (Below.refl _ _).drew
theorem Is.new (W : World) : Is W.heap.size W.heap.size [] (W.alloc (.cells #[.pointer none, .slice none 0 0] 175)) :=
  .inl ⟨Nat.le_refl _, .slice none 0 0, World.alloc_heap_new W _, ⟨by first | decide | simp, .inl ⟨rfl, rfl⟩⟩, by simp [Value.ownBlock]⟩

theorem strCells_bytes (s : List UInt8) : Lib.strCells ⟨s.toArray⟩ = Lib.byteCells s := by
  simp [Lib.strCells, Lib.byteCells]

theorem sizeBuilder : (Tryz.prog.info? 175).map (·.size) = some 2 := by kernel_rfl

set_option maxHeartbeats 2000000 in
set_option maxRecDepth 100000 in
theorem copyCheck_any (B b : Nat) (bs : List Value) (w : World) (h : Lib.IsBuilderF 175 5 B b bs w) :
    Calls Tryz.prog 163 #[.pointer (some ⟨b, 0, none⟩)] w fun e w' => e = .returned (.tuple #[]) ∧ (Lib.BuilderAtF 175 5 B b (.pointer (some ⟨b, 0, none⟩)) bs w' ∧ Below B w w' ∧ Rest b w w') := by
  rcases h with h | h
  · have c0 := h.cell0
    have f0 := h.frozen0
    have hl := h.lt
    have hB := h.1
    have hsh := h.shape
    obtain ⟨j, hj, hjs⟩ := Option.map_eq_some_iff.1 sizeBuilder
    have HU := Lib.hid (h.used (.pointer (some ⟨b, 0, none⟩)))
    clear h
    go_enter Tryz.func163, Tryz.ntmps163
    go_wp2
    rw [Lib.run_to_unsafe w ⟨b, 0, none⟩ Tryz.underlying172 Tryz.underlying371 hj (by rw [hjs]; decide) hsh (Nat.zero_lt_succ 1)]
    simp only [Result.andThen]
    rw [Oper.upon_value]
    go_wp2
    rw [run_callFunc_extern Tryz.func236 (by kernel_rfl) (by kernel_rfl) (by kernel_rfl) (e := Extern.AbiNoEscape.same) (by kernel_rfl)]
    rw [Lib.run_noEscape]
    simp only [Result.andThen]
    rw [Oper.upon_value]
    go_wp2
    rw [Lib.run_from_unsafe w ⟨b, 0, none⟩ Tryz.underlying371 Tryz.underlying172 hj hsh (by kernel_rfl)]
    simp only [Result.andThen]
    rw [Oper.upon_value]
    go_wp2
    go_end0
    exact ⟨rfl, HU.out, (Below.refl B w).setCell (p := ⟨b, 0, none⟩) hB _, (Lib.OthersKept.refl _ _ w).setCell ⟨b, 0, none⟩ rfl _⟩
  · have c0 := h.cell0
    obtain ⟨j, hj, hjs⟩ := Option.map_eq_some_iff.1 sizeBuilder
    have H := Lib.hid h
    clear h
    go_enter Tryz.func163, Tryz.ntmps163
    go_wp2
    rw [Lib.run_neq_ptr_same w _ Tryz.underlying172 hj]
    go_wp2
    go_end0
    exact ⟨rfl, H.out, Below.refl B _, Lib.OthersKept.refl _ _ _⟩

theorem info_u8 : (Tryz.prog.info? 5).map (fun i => (i.zero, i.size, i.bytes)) = some (some (.int .u8 0), 1, 1) := by kernel_rfl

set_option maxHeartbeats 2000000 in
set_option maxRecDepth 100000 in
theorem writeString_any (B b : Nat) (l s : List UInt8) (w : World) (h : Is B b l w) (hlen : l.length + s.length ≤ 140737488355328) (hBw : B ≤ w.heap.size) :
    Calls Tryz.prog 83 #[.pointer (some ⟨b, 0, none⟩), .string ⟨s.toArray⟩] w fun e w' => e = .returned (.tuple #[.int .i64 (s.length : Nat), .nilIface]) ∧ Is B b (l ++ s) w' ∧ Below B w w' ∧ Rest b w w' := by
  obtain ⟨i0, hi, hz0, hz1, hz2⟩ := info_parts info_u8
  have hsz : (⟨s.toArray⟩ : ByteArray).size = s.length := rfl
  have HSZ := Lib.hid hsz
  have hbl : (Lib.byteCells l).length = l.length := Lib.byteCells_length l
  have HBL := Lib.hid hbl
  clear hsz hbl
  go_enter Tryz.func83, Tryz.ntmps83
  go_wp2_with (go_at_call 163; refine (copyCheck_any B b (Lib.byteCells l) _ h).mono ?_)
  rintro e w1 ⟨rfl, h1, hb1, hk1⟩
  obtain ⟨hB, v, hbk, hown, hne⟩ := h1
  have c0 : w1.cell? ⟨b, 0, none⟩ = some (.pointer (some ⟨b, 0, none⟩)) := by rw [Lib.cell_of_heap hbk]; rfl
  have c1 : w1.cell? ⟨b, 1, none⟩ = some v := by rw [Lib.cell_of_heap hbk]; rfl
  go_wp2_with (at_builtin; refine Lib.wpList_append_own_stringF _ rfl _ _ 173 9 rfl B 5 i0 Tryz.underlying173 Tryz.underlying9 hi hz0 hz1 hz2 _ _ _ rfl hown ⟨s.toArray⟩ rfl ?c3 ?c4 ?c5 ?_)
  case c3 => rw [HSZ.out, HBL.out]; unfold maxLen; omega
  case c4 => rw [HSZ.out, HBL.out]; omega
  case c5 => have := hb1.size; omega
  intro v' w2 hown' hgrow _
  have hlt : b < w1.heap.size := (Array.getElem?_eq_some_iff.1 hbk).1
  have hb2 : w2.heap[b]? = some (.cells #[.pointer (some ⟨b, 0, none⟩), v] 175 (0, 0)) := by
    rw [hgrow.block b hlt (fun e => hne e.symm)]
    exact hbk
  have d0 : w2.cell? ⟨b, 0, none⟩ = some (.pointer (some ⟨b, 0, none⟩)) := by rw [Lib.cell_of_heap hb2]; rfl
  have d1 : w2.cell? ⟨b, 1, none⟩ = some v := by rw [Lib.cell_of_heap hb2]; rfl
  have f1 : w2.frozen? ⟨b, 1, none⟩ = false := Lib.frozen_of_heap hb2 1
  obtain ⟨ao, n', cap, rfl⟩ : ∃ ao n' cap, v' = .slice ao n' cap := by
    rcases hown'.2 with ⟨hv, _⟩ | ⟨g, cap, cur, fz, hv, _⟩
    · exact ⟨_, _, _, hv⟩
    · exact ⟨_, _, _, hv⟩
  go_wp2
  go_ret2
  refine ⟨rfl, ?_, ?_, (hk1.grown hgrow (Lib.ownsRowF_kind hown)).setCell ⟨b, 1, none⟩ rfl _⟩
  · have := Lib.BuilderAtF.put (T := 175) (e := 5) hB hb2 (bs' := Lib.byteCells l ++ Lib.strCells ⟨s.toArray⟩) (by rw [List.length_append, Lib.strCells_length]; exact hown') (by decide)
    rw [strCells_bytes] at this
    refine .inr ?_
    rw [show Lib.byteCells (l ++ s) = Lib.byteCells l ++ Lib.byteCells s by simp [Lib.byteCells]]
    exact this
  · exact (hb1.grown hgrow (by have := hb1.size; omega) (fun k hk => (hown.lt k hk).1)).setCell (p := ⟨b, 1, none⟩) hB _

theorem string_any (B b : Nat) (l : List UInt8) (w : World) (h : Is B b l w) (hBw : B ≤ w.heap.size) :
    Calls Tryz.prog 87 #[.pointer (some ⟨b, 0, none⟩)] w fun e w' => e = .returned (.string ⟨l.toArray⟩) ∧ Is B b l w' ∧ Below B w w' ∧ Rest b w w' :=
  (Tryz.Builder_String_any_k B b l w h hBw).mono fun e w' ⟨h1, h2, h3, h4⟩ => ⟨h1, h2, h3, h4⟩
end Sb
end Go.Proofs.YtoldjbgojjafdaaGreatDoor

/-
  strings.Builder as this dump has it: WriteByte.
-/
namespace Go.Proofs.YtoldjbgojjafdaaGreatDoor
open Go.RowKit
set_option linter.unusedSimpArgs false
set_option linter.unusedVariables false
namespace Sb

set_option maxHeartbeats 2000000 in
set_option maxRecDepth 100000 in
theorem writeByte_any (B b : Nat) (l : List UInt8) (C : Int) (c : UInt8) (hC : C = (c.toNat : Int)) (w : World) (h : Is B b l w) (hlen : l.length + 1 ≤ 140737488355328) (hBw : B ≤ w.heap.size) :
    Calls Tryz.prog 85 #[.pointer (some ⟨b, 0, none⟩), .int .u8 C] w fun e w' => e = .returned .nilIface ∧ Is B b (l ++ [c]) w' ∧ Below B w w' ∧ Rest b w w' := by
  obtain ⟨i0, hi, hz0, hz1, hz2⟩ := info_parts info_u8
  have HBL := Lib.hid (Lib.byteCells_length l)
  have HCV := Lib.hid (show Lib.byteCells (l ++ [c]) = Lib.byteCells l ++ [.int .u8 C] by rw [hC]; simp [Lib.byteCells])
  clear hC
  go_enter Tryz.func85, Tryz.ntmps85
  go_wp2_with (go_at_call 163; refine (copyCheck_any B b (Lib.byteCells l) _ h).mono ?_)
  rintro e w1 ⟨rfl, h1, hb1, hk1⟩
  obtain ⟨hB, v, hbk, hown, hne⟩ := h1
  have c0 : w1.cell? ⟨b, 0, none⟩ = some (.pointer (some ⟨b, 0, none⟩)) := by rw [Lib.cell_of_heap hbk]; rfl
  have c1 : w1.cell? ⟨b, 1, none⟩ = some v := by rw [Lib.cell_of_heap hbk]; rfl
  go_wp2_with (at_builtin; refine wpList_append_ownF _ rfl _ _ 173 rfl B 5 i0 (.int .u8 0) 1 1 Tryz.underlying173 hi hz0 hz1 hz2 rfl (by decide) _ _ _ rfl (hown.alloc _) ⟨w1.heap.size, 0, none⟩ 1 1 [.int .u8 C] rfl rfl ?k1 ?k2 ?k3 ?k4 ?k5 ?_)
  case k1 =>
    intro j u hj
    match j, hj with
    | 0, hj => simp at hj; subst hj; simp [Addr.add]
  case k2 => intro u hu; simp at hu; subst hu; rfl
  case k3 => rw [HBL.out]; unfold maxLen; omega
  case k4 => rw [HBL.out]; omega
  case k5 => have := hb1.size; simp; omega
  intro v' w2 hown' hgrow _
  have hlt : b < w1.heap.size := (Array.getElem?_eq_some_iff.1 hbk).1
  have hb2 : w2.heap[b]? = some (.cells #[.pointer (some ⟨b, 0, none⟩), v] 175 (0, 0)) := by
    rw [hgrow.block b (by simp; omega) (fun e => hne e.symm), Lib.alloc_old w1 _ b hlt]
    exact hbk
  have d0 : w2.cell? ⟨b, 0, none⟩ = some (.pointer (some ⟨b, 0, none⟩)) := by rw [Lib.cell_of_heap hb2]; rfl
  have d1 : w2.cell? ⟨b, 1, none⟩ = some v := by rw [Lib.cell_of_heap hb2]; rfl
  have f1 : w2.frozen? ⟨b, 1, none⟩ = false := Lib.frozen_of_heap hb2 1
  obtain ⟨ao, n', cap, rfl⟩ : ∃ ao n' cap, v' = .slice ao n' cap := by
    rcases hown'.2 with ⟨hv, _⟩ | ⟨g, cap, cur, fz, hv, _⟩
    · exact ⟨_, _, _, hv⟩
    · exact ⟨_, _, _, hv⟩
  go_wp2
  go_ret
  refine ⟨rfl, ?_, ?_, ((hk1.alloc _).grown hgrow (Lib.ownsRowF_kind (hown.alloc _))).setCell ⟨b, 1, none⟩ rfl _⟩
  · have := Lib.BuilderAtF.put (T := 175) (e := 5) hB hb2 (bs' := Lib.byteCells l ++ [.int .u8 C]) (by simpa using hown') (by decide)
    refine .inr ?_
    rw [HCV.out]
    exact this
  · exact ((hb1.alloc (by have := hb1.size; omega) _).grown hgrow (by have := hb1.size; simp; omega) (fun k hk => (hown.lt k hk).1)).setCell (p := ⟨b, 1, none⟩) hB _
end Sb
end Go.Proofs.YtoldjbgojjafdaaGreatDoor

/-
  The program's batches: putMayBe, putBatch.
-/
namespace Go.Proofs.YtoldjbgojjafdaaGreatDoor
open Go.RowKit
set_option linter.unusedSimpArgs false
set_option linter.unusedVariables false
namespace Wd
open Wa

set_option maxRecDepth 100000 in
set_option maxHeartbeats 2000000 in
theorem putMayBe_any (k v : List UInt8) (d : Bool) (w : World) (hk : k.length ≤ 1048576) (hv : v.length ≤ 1048576) :
    Calls Tryz.prog 36 #[.agg #[.string (Cd.bs k), .string (Cd.bs v), .bool d]] w fun e w' => e = .returned (.bool (mayB (k, v, d, ()))) ∧ Below w.heap.size w w' := by
  have hsk : (Cd.bs k).size = k.length := rfl
  have hsv : (Cd.bs v).size = v.length := rfl
  have hvl : (Cd.bs v).toList = v := by rw [ByteArray.toList_mk]
  by_cases h1 : 1 ≤ k.length
  · have h1i : ¬ (k.length : Int) < 1 := by omega
    by_cases h2 : k.length ≤ 96
    · have h2i : ¬ (96 : Int) < (k.length : Int) := by omega
      cases d
      · by_cases h3 : v.length ≤ 16384
        · have h3i : (v.length : Int) ≤ 16384 := by omega
          have e : mayB (k, v, false, ()) = true := by simp [mayB, h1, h2, h3]
          rw [e]
          clear e h1 h2 h3
          go_enter Tryz.func36, Tryz.ntmps36
          go_wp2_with fail
          go_ret
          exact ⟨rfl, (Below.refl _ _).alloc (Nat.le_refl _) _⟩
        · have h3i : ¬ (v.length : Int) ≤ 16384 := by omega
          have e : mayB (k, v, false, ()) = false := by simp [mayB, h3]
          rw [e]
          clear e h1 h2 h3
          go_enter Tryz.func36, Tryz.ntmps36
          go_wp2_with fail
          go_ret
          exact ⟨rfl, (Below.refl _ _).alloc (Nat.le_refl _) _⟩
      · by_cases h4 : v = []
        · subst h4
          have e : mayB (k, [], true, ()) = true := by simp [mayB, h1, h2]
          rw [e]
          clear e h1 h2
          go_enter Tryz.func36, Tryz.ntmps36
          go_wp2_with fail
          go_ret
          exact ⟨rfl, (Below.refl _ _).alloc (Nat.le_refl _) _⟩
        · have e : mayB (k, v, true, ()) = false := by simp [mayB, h4]
          have h5 : (v == []) = false := by simpa using h4
          have h6 : v.isEmpty = false := by simpa using h4
          rw [e]
          clear e h1 h2 h4
          go_enter Tryz.func36, Tryz.ntmps36
          go_wp2_with fail
          go_ret
          exact ⟨rfl, (Below.refl _ _).alloc (Nat.le_refl _) _⟩
    · have e : mayB (k, v, d, ()) = false := by simp [mayB, h2]
      have h2i : (96 : Int) < (k.length : Int) := by omega
      rw [e]
      clear e h1 h2
      go_enter Tryz.func36, Tryz.ntmps36
      go_wp2_with fail
      go_ret
      exact ⟨rfl, (Below.refl _ _).alloc (Nat.le_refl _) _⟩
  · have e : mayB (k, v, d, ()) = false := by simp [mayB]; intro h; exact absurd (by omega) h1
    have h1i : (k.length : Int) < 1 := by omega
    rw [e]
    clear e h1
    go_enter Tryz.func36, Tryz.ntmps36
    go_wp2_with fail
    go_ret
    exact ⟨rfl, (Below.refl _ _).alloc (Nat.le_refl _) _⟩

/-- amid putBatch: the builder, the batch's own box, and all that was ahead -/
def Pre (w : World) (b : Nat) (S : Int) (v : Value) (D : Fi.Dat) (W : World) : Prop :=
  Sb.Is b b D W ∧ Below w.heap.size w W ∧ Ob.Obj W w.heap.size 68 [.int .u64 S, v]
theorem Pre.next {w W W' : World} {b : Nat} {S : Int} {v : Value} {D : Fi.Dat} (h : Pre w b S v D W) (hb : Below W.heap.size W W') : Pre w b S v D W' :=
  ⟨h.1.below hb, h.2.1.trans (hb.mono h.2.1.size), h.2.2.below hb⟩
theorem Pre.write {w W : World} {b : Nat} {S : Int} {v : Value} {D X : Fi.Dat} (hwb : w.heap.size < b) (h : Pre w b S v D W) (hl : D.length + X.length ≤ 140737488355328) :
    Calls Tryz.prog 83 #[.pointer (some ⟨b, 0, none⟩), .string (Cd.bs X)] W fun e w' => e = .returned (.tuple #[.int .i64 (X.length : Nat), .nilIface]) ∧ Pre w b S v (D ++ X) w' ∧ Sb.Rest b W w' :=
  (Sb.writeString_any b b D X W h.1 hl (Nat.le_of_lt h.1.lt)).mono fun e w' ⟨he, h1, h2, h3⟩ =>
    ⟨he, ⟨h1, h.2.1.trans (h2.mono (Nat.le_of_lt hwb)), h3.obj h.2.2 (by omega) (by decide)⟩, h3⟩
theorem Pre.byte {w W : World} {b : Nat} {S : Int} {v : Value} {D : Fi.Dat} (C : Int) (c : UInt8) (hC : C = (c.toNat : Int)) (hwb : w.heap.size < b) (h : Pre w b S v D W) (hl : D.length + 1 ≤ 140737488355328) :
    Calls Tryz.prog 85 #[.pointer (some ⟨b, 0, none⟩), .int .u8 C] W fun e w' => e = .returned .nilIface ∧ Pre w b S v (D ++ [c]) w' ∧ Sb.Rest b W w' :=
  (Sb.writeByte_any b b D C c hC W h.1 hl (Nat.le_of_lt h.1.lt)).mono fun e w' ⟨he, h1, h2, h3⟩ =>
    ⟨he, ⟨h1, h.2.1.trans (h2.mono (Nat.le_of_lt hwb)), h3.obj h.2.2 (by omega) (by decide)⟩, h3⟩
theorem Bx.of {w W : World} {S : Int} {v : Value} (h : Ob.Obj W w.heap.size 68 [.int .u64 S, v]) : Ob.Obj W w.heap.size 68 [.int .u64 S, v] ∧ W.cell? ⟨w.heap.size, 0, none⟩ = some (.int .u64 S) ∧ W.cell? ⟨w.heap.size, 1, none⟩ = some v :=
  ⟨h, h.cell 0, h.cell 1⟩

set_option maxRecDepth 100000 in
set_option maxHeartbeats 8000000 in
theorem putBatch_any (S : Int) (seq : Nat) (hS : S = seq) (v : Value) (L : List Pt) (w : World) (hs : seq < 18446744073709551616) (hP : Puts w.heap.size w v L) (hm : ∀ p ∈ L, mayB p = true) (hL : L.length ≤ 256) :
    Calls Tryz.prog 37 #[.agg #[.int .u64 S, v]] w fun e w' => e = .returned (.string (Cd.bs (Wa.load seq L))) ∧ Below w.heap.size w w' := by
  subst hS
  obtain ⟨a, cap, fb, fo, rfl, ha, hcells⟩ := hP
  have HC := Lib.hid hcells
  have HM := Lib.hid hm
  have HP1 := Lib.hid (fun W => putUc_at (seq : Int) seq W rfl hs)
  have HP2 := Lib.hid (fun W => putUc_at (L.length : Int) L.length W rfl (by omega))
  have hpl1 := Cd.putU_len10 seq (by omega)
  have hpl2 := Cd.putU_len10 L.length (by omega)
  have hwL : IntKind.u64.wrap (L.length : Int) = (L.length : Int) := Cd.wrapU_nat (by omega)
  obtain ⟨HD, hHD⟩ : ∃ HD, HD = Cd.putU seq ++ Cd.putU L.length := ⟨_, rfl⟩
  have hhd : HD.length ≤ 20 := by rw [hHD, List.length_append]; omega
  have HHD := Lib.hid hHD
  have hW : Below w.heap.size w (w.alloc (.cells #[.int .u64 (seq : Int), .slice a L.length cap] 68)) := (Below.refl _ _).alloc (Nat.le_refl _) _
  have bx := Ob.Obj.new w 68 [.int .u64 (seq : Int), .slice a L.length cap]
  have HW := Lib.hid hW
  have HBX := Lib.hid bx
  clear hcells hm hHD hW bx
  go_enter Tryz.func37, Tryz.ntmps37
  go_wp2_with fail
  obtain ⟨w1, hw1⟩ : ∃ w1, w1 = w.alloc (.cells #[.int .u64 (seq : Int), .slice a L.length cap] 68) := ⟨_, rfl⟩
  have hB1 := HW.out
  have bx1 := HBX.out
  change Ob.Obj (w.alloc (.cells #[.int .u64 (seq : Int), .slice a L.length cap] 68)) w.heap.size 68 [.int .u64 (seq : Int), .slice a L.length cap] at bx1
  have hz1 : w.heap.size < w1.heap.size := by rw [hw1]; simp
  rw [← hw1] at hB1 bx1 ⊢
  have hP0 : Pre w w1.heap.size (seq : Int) (.slice a L.length cap) [] (w1.alloc (.cells #[.pointer none, .slice none 0 0] 175)) := ⟨Sb.Is.new w1, hB1.alloc hB1.size _, bx1.alloc _⟩
  obtain ⟨wA, hwA⟩ : ∃ wA, wA = w1.alloc (.cells #[.pointer none, .slice none 0 0] 175) := ⟨_, rfl⟩
  rw [← hwA] at hP0 ⊢
  have hsz : w1.heap.size = w.heap.size + 1 := by rw [hw1]; simp
  obtain ⟨bb, hbb⟩ : ∃ bb, bb = w.heap.size + 1 := ⟨_, rfl⟩
  rw [hsz, ← hbb] at hP0 hz1
  rw [← hbb]
  clear hsz hwA hbb bx1 hB1 hw1 HW HBX
  go_cut [] (fun wx => Pre w bb (seq : Int) (.slice a L.length cap) HD wx)
  case first =>
    have NX := Lib.hid (fun W W' (h : Ob.Obj W w.heap.size 68 [.int .u64 (seq : Int), .slice a L.length cap] ∧ W.cell? ⟨w.heap.size, 0, none⟩ = some (.int .u64 (seq : Int)) ∧ W.cell? ⟨w.heap.size, 1, none⟩ = some (.slice a L.length cap)) (hb : Below W.heap.size W W') => Bx.of (h.1.below hb))
    have HS1 := Lib.hid (Bx.of (w := w) (hP0.next (Below.refl _ _).drew).2.2)
    have hP1 := hP0.next (Below.refl _ _).drew
    have WR := Lib.hid (fun W (h : Pre w bb (seq : Int) (.slice a L.length cap) [] W) => h.write (X := Cd.putU seq ++ Cd.putU L.length) hz1 (by rw [List.length_append, List.length_nil]; omega))
    have q1 : ¬ 9223372036854775807 < (Cd.putU seq).length + (Cd.putU L.length).length := by omega
    go_region_held3 (fun W => Ob.Obj W w.heap.size 68 [.int .u64 (seq : Int), .slice a L.length cap] ∧ W.cell? ⟨w.heap.size, 0, none⟩ = some (.int .u64 (seq : Int)) ∧ W.cell? ⟨w.heap.size, 1, none⟩ = some (.slice a L.length cap))
      (first | exact HS1.out | exact NX.out _ _ (by assumption) hb2 | exact Bx.of hp3.2.2)
      (first
      | (go_at_call 84; (with_reducible refine (HP1.out _).mono ?_); rintro e w2 ⟨rfl, hb2⟩; have hp2 := (show Pre w bb (seq : Int) (.slice a L.length cap) [] _ by assumption).next hb2)
      | (go_at_call 84; (with_reducible refine (HP2.out _).mono ?_); rintro e w2 ⟨rfl, hb2⟩; have hp2 := (show Pre w bb (seq : Int) (.slice a L.length cap) [] _ by assumption).next hb2)
      | (go_at_call 83; rw [ByteArray.mk_append_mk]; (with_reducible refine (WR.out _ (by assumption)).mono ?_); rintro e w3 ⟨rfl, hp3, hr3⟩))
    all_goals clear q1
    all_goals go_wp2_with fail
    all_goals go_meet
    all_goals (rw [HHD.out]; exact hp3)
  case rest =>
    have hPc := hcut
    have HPC := Lib.hid hPc
    obtain ⟨_, k0, k1⟩ := Bx.of hPc.2.2
    have hwl0 := hPc.2.2.lt
    clear hcut hP0 hPc k0 hwL
    go_wp2_with fail
    clear k1
    go_loopw [20] (fun i wr => ∃ q : Nat, q ≤ L.length ∧ i = .int .i64 q ∧ Pre w bb (seq : Int) (.slice a L.length cap) (HD ++ (L.take q).flatMap putB) wr) (fun i _ => L.length - (intOf i).toNat)
    case atStart => exact ⟨0, Nat.zero_le _, rfl, by simpa using HPC.out⟩
    case round =>
      obtain ⟨q, hq, rfl, hP⟩ := hrel
      obtain ⟨wo, rfl⟩ : ∃ wo : World, wo = wr := ⟨_, rfl⟩
      have hB := hP.2.1
      have hwl : bb < wo.heap.size := hP.1.lt
      by_cases hlt : q < L.length
      · obtain ⟨rfl, hfb⟩ := ha (by omega)
        obtain ⟨d0, d1, d2⟩ := HC.out q hlt
        have e0 := (hB.cell (p := ⟨fb, fo + q * 3, none⟩) hfb).trans d0
        have e1 := (hB.cell (p := ⟨fb, fo + q * 3 + 1, none⟩) hfb).trans d1
        have e2 := (hB.cell (p := ⟨fb, fo + q * 3 + 2, none⟩) hfb).trans d2
        have hmq := HM.out L[q] (List.getElem_mem hlt)
        have hsl : (HD ++ (L.take q).flatMap putB).length ≤ 4300000 := by
          rw [List.length_append]
          have := puts_len (L.take q) (fun p hp => HM.out p (List.mem_of_mem_take hp))
          have : (L.take q).length ≤ 256 := by simp; omega
          omega
        have hts : HD ++ (L.take (q + 1)).flatMap putB = (HD ++ (L.take q).flatMap putB) ++ putB L[q] := by
          rw [List.take_succ_eq_append_getElem hlt, List.flatMap_append, List.append_assoc]; simp
        have HTS := Lib.hid hts
        have hi1 : (0 : Int) ≤ (q : Int) ∧ (q : Int) < (L.length : Int) := by omega
        have hwb : fb < wo.heap.size := by have := hB.size; omega
        clear hts d0 d1 d2 hB
        generalize L[q] = p at *
        obtain ⟨k, vv, dl, _⟩ := p
        simp only [mayB, Bool.and_eq_true, decide_eq_true_eq] at hmq
        have hk1 : k.length ≤ 96 := hmq.1.1.2
        have hv1 : vv.length ≤ 16384 := hmq.1.2
        have HK := Lib.hid (fun W => show Calls Tryz.prog 86 #[.string (Cd.bs k)] W fun e w' => e = .returned (.string (Cd.bs (Cd.putT k))) ∧ Below W.heap.size W w' from putTc_any (Cd.bs k) W (by show k.length ≤ _; omega))
        have HV := Lib.hid (fun W => show Calls Tryz.prog 86 #[.string (Cd.bs vv)] W fun e w' => e = .returned (.string (Cd.bs (Cd.putT vv))) ∧ Below W.heap.size W w' from putTc_any (Cd.bs vv) W (by show vv.length ≤ _; omega))
        have lk : (Cd.putT k).length ≤ 110 := by have := Cd.putU_len10 k.length (by omega); unfold Cd.putT; rw [List.length_append]; omega
        have lv : (Cd.putT vv).length ≤ 16400 := by have := Cd.putU_len10 vv.length (by omega); unfold Cd.putT; rw [List.length_append]; omega
        have HPB : Hid (putB (k, vv, dl, ()) = if dl = true then 1 :: Cd.putT k else 0 :: (Cd.putT k ++ Cd.putT vv)) := rfl
        simp only at e0 e1 e2
        clear hmq
        generalize HD ++ (L.take q).flatMap putB = S1 at *
        have hoA : Ob.Obj (wo.alloc (.cells #[.string (Cd.bs k), .string (Cd.bs vv), .bool dl] 93)) wo.heap.size 93 [.string (Cd.bs k), .string (Cd.bs vv), .bool dl] := Ob.Obj.new wo _ _
        have hPA : Pre w bb (seq : Int) (.slice (some ⟨fb, fo, none⟩) L.length cap) S1 (wo.alloc (.cells #[.string (Cd.bs k), .string (Cd.bs vv), .bool dl] 93)) := hP.next ((Below.refl _ _).alloc (Nat.le_refl _) _)
        have hbo : wo.heap.size ≠ bb := by omega
        obtain ⟨wA, hwA⟩ : ∃ wA, wo.alloc (.cells #[.string (Cd.bs k), .string (Cd.bs vv), .bool dl] 93) = wA := ⟨_, rfl⟩
        rw [hwA] at hoA hPA
        cases dl with
        | true =>
          have HF := Lib.hid (show HD ++ (L.take (q + 1)).flatMap putB = S1 ++ [1] ++ Cd.putT k by rw [HTS.out, HPB.out, if_pos rfl]; simp)
          clear HV lv
          generalize Cd.putT k = tk at *
          have WB := Lib.hid (fun W (h : Pre w bb (seq : Int) (.slice (some ⟨fb, fo, none⟩) L.length cap) S1 W) => h.byte 1 1 rfl hz1 (by omega))
          have WR := Lib.hid (fun W (h : Pre w bb (seq : Int) (.slice (some ⟨fb, fo, none⟩) L.length cap) (S1 ++ [1]) W) => h.write (X := tk) hz1 (by rw [List.length_append, List.length_singleton]; omega))
          have c2 := hoA.cell 2
          have hoz := hoA.lt
          have HOA := Lib.hid hoA
          simp at c2
          clear hoA hP
          go_wp2_with (first
            | (go_at_call 85; (with_reducible refine (WB.out _ hPA).mono ?_); rintro e w3 ⟨rfl, hp3, hr3⟩; have ho3 := hr3.obj HOA.out hbo (by decide); have c30 := ho3.cell 0; have hz3 := ho3.lt; simp at c30)
            | (go_at_call 86; (with_reducible refine (HK.out _).mono ?_); rintro e w4 ⟨rfl, hb4⟩; have ho4 := ho3.below hb4; have hp4 := hp3.next hb4)
            | (go_at_call 83; (with_reducible refine (WR.out _ hp4).mono ?_); rintro e w5 ⟨rfl, hp5, hr5⟩; have ho5 := hr5.obj ho4 hbo (by decide); have c52 := ho5.cell 2; have hz5 := ho5.lt; simp at c52))
          go_roundw
          case rel => exact ⟨q + 1, by omega, by go_num, by rw [HF.out]; exact hp5⟩
          case measure => simp [intOf]; omega
        | false =>
          subst hwA
          have HF := Lib.hid (show HD ++ (L.take (q + 1)).flatMap putB = S1 ++ [0] ++ Cd.putT k ++ Cd.putT vv by rw [HTS.out, HPB.out, if_neg (by simp)]; simp)
          generalize Cd.putT k = tk at *
          generalize Cd.putT vv = tv at *
          have WB := Lib.hid (fun W (h : Pre w bb (seq : Int) (.slice (some ⟨fb, fo, none⟩) L.length cap) S1 W) => h.byte 0 0 rfl hz1 (by omega))
          have WR := Lib.hid (fun W (h : Pre w bb (seq : Int) (.slice (some ⟨fb, fo, none⟩) L.length cap) (S1 ++ [0]) W) => h.write (X := tk) hz1 (by rw [List.length_append, List.length_singleton]; omega))
          have WV := Lib.hid (fun W (h : Pre w bb (seq : Int) (.slice (some ⟨fb, fo, none⟩) L.length cap) (S1 ++ [0] ++ tk) W) => h.write (X := tv) hz1 (by rw [List.length_append, List.length_append, List.length_singleton]; omega))
          have c2 := hoA.cell 2
          have hoz := hoA.lt
          have HOA := Lib.hid hoA
          simp at c2
          clear hoA hP
          go_wp2_with (first
            | (go_at_call 85; (with_reducible refine (WB.out _ hPA).mono ?_); rintro e w3 ⟨rfl, hp3, hr3⟩; have ho3 := hr3.obj HOA.out hbo (by decide); have c30 := ho3.cell 0; have hz3 := ho3.lt; simp at c30)
            | (go_at_call 86; (with_reducible refine (HK.out _).mono ?_); rintro e w4 ⟨rfl, hb4⟩; have ho4 := ho3.below hb4; have hp4 := hp3.next hb4)
            | (go_at_call 83; (with_reducible refine (WR.out _ hp4).mono ?_); rintro e w5 ⟨rfl, hp5, hr5⟩; have ho5 := hr5.obj ho4 hbo (by decide); have c51 := ho5.cell 1; have c52 := ho5.cell 2; have hz5 := ho5.lt; simp at c51 c52)
            | (go_at_call 86; (with_reducible refine (HV.out _).mono ?_); rintro e w6 ⟨rfl, hb6⟩; have hp6 := hp5.next hb6)
            | (go_at_call 83; (with_reducible refine (WV.out _ hp6).mono ?_); rintro e w7 ⟨rfl, hp7, hr7⟩))
          go_roundw
          case rel => exact ⟨q + 1, by omega, by go_num, by rw [HF.out]; exact hp7⟩
          case measure => simp [intOf]; omega
      · obtain rfl : q = L.length := by omega
        have HE := Lib.hid (show HD ++ (L.take L.length).flatMap putB = Wa.load seq L by rw [List.take_length, HHD.out]; rfl)
        rw [HE.out] at hP
        have HSTR := Lib.hid (Sb.string_any bb bb _ _ hP.1 (Nat.le_of_lt hP.1.lt))
        obtain ⟨ld, hld⟩ : ∃ ld, Wa.load seq L = ld := ⟨_, rfl⟩
        rw [hld] at HSTR
        have HLD := Lib.hid hld
        clear hP hld HE
        go_wp2_with (go_at_call 87; (with_reducible refine HSTR.out.mono ?_); rintro e w4 ⟨rfl, hI4, hb4, hr4⟩; have hB4 := hB.trans (hb4.mono (Nat.le_of_lt hz1)))
        go_ret
        exact ⟨by rw [HLD.out]; rfl, hB4⟩
end Wd
end Go.Proofs.YtoldjbgojjafdaaGreatDoor

/-
  store: which configurations may be; a store that is nil refuses all, and tells nothing.
-/
namespace Go.Proofs.YtoldjbgojjafdaaGreatDoor
open Go.RowKit
set_option linter.unusedVariables false
set_option linter.unusedSimpArgs false
namespace Sr
open Cp (Cfg wt mayC cfgV)
set_option maxRecDepth 100000 in
theorem withinS_any (n lo hi : Int) (w : World) :
    Calls Tryz.prog 16 #[.int .i64 n, .int .i64 lo, .int .i64 hi] w fun e w' => e = .returned (.bool (wt n lo hi)) ∧ w = w' := by
  unfold wt
  go_enter Tryz.func16, Tryz.ntmps16
  go_wp2_with fail
  all_goals go_ret
  all_goals refine ⟨congrArg (fun b => Ending.returned (.bool b)) ?_, rfl⟩
  all_goals (first | (simp_all; done) | (simp_all; omega))

set_option maxRecDepth 100000 in
set_option maxHeartbeats 4000000 in
theorem checkS_any (c : Cfg) (w : World) :
    Calls Tryz.prog 4 #[cfgV c] w fun e w' => e = .returned (.int .i64 (if mayC c = true then 0 else 1)) ∧ Below w.heap.size w w' := by
  obtain ⟨x0, x1, x2, x3, x4, x5, x6, x7⟩ := c
  unfold cfgV mayC
  simp only
  have H0 := Lib.hid (fun W => withinS_any x0 64 65536 W)
  have H1 := Lib.hid (fun W => withinS_any x1 64 4096 W)
  have H2 := Lib.hid (fun W => withinS_any x2 0 20 W)
  have H3 := Lib.hid (fun W => withinS_any x3 256 65536 W)
  have H4 := Lib.hid (fun W => withinS_any x4 1 8 W)
  have H5 := Lib.hid (fun W => withinS_any x5 256 1048576 W)
  have H6 := Lib.hid (fun W => withinS_any x6 1 1000 W)
  generalize wt x0 64 65536 = b0 at *
  generalize wt x1 64 4096 = b1 at *
  generalize wt x2 0 20 = b2 at *
  generalize wt x3 256 65536 = b3 at *
  generalize wt x4 1 8 = b4 at *
  generalize wt x5 256 1048576 = b5 at *
  generalize wt x6 1 1000 = b6 at *
  go_enter Tryz.func4, Tryz.ntmps4
  go_wp2_with (go_at_call 16; (first | (with_reducible refine (H0.out _).mono ?_) | (with_reducible refine (H1.out _).mono ?_) | (with_reducible refine (H2.out _).mono ?_) | (with_reducible refine (H3.out _).mono ?_) | (with_reducible refine (H4.out _).mono ?_) | (with_reducible refine (H5.out _).mono ?_) | (with_reducible refine (H6.out _).mono ?_)); rintro e w2 ⟨rfl, rfl⟩)
  all_goals go_ret
  all_goals refine ⟨congrArg (fun b => Ending.returned (.int .i64 b)) ?_, (Below.refl _ _).alloc (Nat.le_refl _) _⟩
  all_goals (simp_all; done)

/-- no puts may be written -/
theorem load_none : (Wa.load Wa.MaxSeq []).length ≤ 262144 := by decide +kernel

set_option maxRecDepth 100000 in
set_option maxHeartbeats 4000000 in
theorem check_none (w : World) :
    Calls Tryz.prog 17 #[.slice none 0 0] w fun e w' => e = .returned (.int .i64 0) ∧ Below w.heap.size w w' := by
  have HLD := Lib.hid (fun W => Wd.putBatch_any 1125899906842624 Wa.MaxSeq rfl (.slice none 0 0) [] W (by decide) ⟨none, 0, 0, 0, rfl, fun h => absurd h (by simp), fun j hj => absurd hj (by simp)⟩ (by simp) (by simp))
  have hll := load_none
  generalize Wa.load Wa.MaxSeq [] = ld at *
  have hsz : (Cd.bs ld).size = ld.length := rfl
  have h2i : ¬ (262144 : Int) < (ld.length : Int) := by omega
  go_enter Tryz.func17, Tryz.ntmps17
  go_wp2_with fail
  go_loopw [10] (fun i wr => i = .int .i64 0 ∧ w = wr) (fun i _ => 0)
  case atStart => exact ⟨rfl, rfl⟩
  case round =>
    obtain ⟨rfl, rfl⟩ := hrel
    go_wp2_with (go_at_call 37; (with_reducible refine (HLD.out _).mono ?_); rintro e w3 ⟨rfl, hb3⟩)
    go_ret
    exact ⟨rfl, hb3⟩

set_option maxRecDepth 100000 in
theorem refusal_nil (w : World) :
    Calls Tryz.prog 18 #[.pointer none] w fun e w' => e = .returned (.int .i64 1) ∧ w = w' := by
  go_enter Tryz.func18, Tryz.ntmps18
  go_wp2_with fail
  go_ret
  exact ⟨rfl, rfl⟩

set_option maxRecDepth 100000 in
set_option maxHeartbeats 4000000 in
theorem write_nil (w : World) :
    Calls Tryz.prog 6 #[.pointer none, .slice none 0 0] w fun e w' => e = .returned (.int .i64 1) ∧ Below w.heap.size w w' := by
  go_enter Tryz.func6, Tryz.ntmps6
  go_wp2_with (first
    | (go_at_call 17; with_reducible refine (check_none _).mono ?_; rintro e w2 ⟨rfl, hb2⟩)
    | (go_at_call 18; with_reducible refine (refusal_nil _).mono ?_; rintro e w3 ⟨rfl, rfl⟩))
  go_ret
  exact ⟨rfl, hb2⟩

set_option maxRecDepth 100000 in
set_option maxHeartbeats 4000000 in
theorem get_nil (key : ByteArray) (w : World) :
    Calls Tryz.prog 7 #[.pointer none, .string key] w fun e w' => e = .returned (.tuple #[.string ⟨#[]⟩, .bool false, .int .i64 1]) ∧ Below w.heap.size w w' := by
  go_enter Tryz.func7, Tryz.ntmps7
  go_wp2_with (go_at_call 18; with_reducible refine (refusal_nil _).mono ?_; rintro e w3 ⟨rfl, rfl⟩)
  exact bodyPost_ret (v := .tuple #[.string ⟨#[]⟩, .bool false, .int .i64 1]) (by simp [results, Tryz.results7, go_sem]) rfl ⟨rfl, Below.refl _ _⟩

set_option maxRecDepth 100000 in
set_option maxHeartbeats 4000000 in
theorem scan_nil (lo hi : ByteArray) (w : World) :
    Calls Tryz.prog 8 #[.pointer none, .string lo, .string hi, .int .i64 1] w fun e w' => e = .returned (.tuple #[.slice none 0 0, .int .i64 1]) ∧ Below w.heap.size w w' := by
  go_enter Tryz.func8, Tryz.ntmps8
  go_wp2_with (go_at_call 18; with_reducible refine (refusal_nil _).mono ?_; rintro e w3 ⟨rfl, rfl⟩)
  go_ret2
  exact ⟨rfl, Below.refl _ _⟩

set_option maxRecDepth 100000 in
set_option maxHeartbeats 4000000 in
theorem snap_nil (w : World) :
    Calls Tryz.prog 9 #[.pointer none] w fun e w' => e = .returned (.tuple #[.int .u64 0, .int .i64 1]) ∧ Below w.heap.size w w' := by
  go_enter Tryz.func9, Tryz.ntmps9
  go_wp2_with (go_at_call 18; with_reducible refine (refusal_nil _).mono ?_; rintro e w3 ⟨rfl, rfl⟩)
  go_ret2
  exact ⟨rfl, Below.refl _ _⟩

set_option maxRecDepth 100000 in
set_option maxHeartbeats 4000000 in
theorem find_nil (n : Int) (w : World) :
    Calls Tryz.prog 22 #[.pointer none, .int .u64 n] w fun e w' => e = .returned (.tuple #[.int .i64 0, .int .i64 1]) ∧ Below w.heap.size w w' := by
  go_enter Tryz.func22, Tryz.ntmps22
  go_wp2_with (go_at_call 18; with_reducible refine (refusal_nil _).mono ?_; rintro e w3 ⟨rfl, rfl⟩)
  go_ret2
  exact ⟨rfl, (Below.refl _ _).alloc (Nat.le_refl _) _⟩

set_option maxRecDepth 100000 in
set_option maxHeartbeats 4000000 in
theorem release_nil (n : Int) (w : World) :
    Calls Tryz.prog 10 #[.pointer none, .int .u64 n] w fun e w' => e = .returned (.int .i64 1) ∧ Below w.heap.size w w' := by
  go_enter Tryz.func10, Tryz.ntmps10
  go_wp2_with (go_at_call 22; with_reducible refine (find_nil _ _).mono ?_; rintro e w3 ⟨rfl, hb3⟩)
  go_ret
  exact ⟨rfl, hb3⟩

set_option maxRecDepth 100000 in
set_option maxHeartbeats 4000000 in
theorem getAt_nil (n : Int) (key : ByteArray) (w : World) :
    Calls Tryz.prog 11 #[.pointer none, .int .u64 n, .string key] w fun e w' => e = .returned (.tuple #[.string ⟨#[]⟩, .bool false, .int .i64 1]) ∧ Below w.heap.size w w' := by
  go_enter Tryz.func11, Tryz.ntmps11
  go_wp2_with (go_at_call 22; with_reducible refine (find_nil _ _).mono ?_; rintro e w3 ⟨rfl, hb3⟩)
  exact bodyPost_ret (v := .tuple #[.string ⟨#[]⟩, .bool false, .int .i64 1]) (by simp [results, Tryz.results11, go_sem]) rfl ⟨rfl, hb3⟩

set_option maxRecDepth 100000 in
set_option maxHeartbeats 4000000 in
theorem scanAt_nil (n : Int) (lo hi : ByteArray) (w : World) :
    Calls Tryz.prog 12 #[.pointer none, .int .u64 n, .string lo, .string hi, .int .i64 1] w fun e w' => e = .returned (.tuple #[.slice none 0 0, .int .i64 1]) ∧ Below w.heap.size w w' := by
  go_enter Tryz.func12, Tryz.ntmps12
  go_wp2_with (go_at_call 22; with_reducible refine (find_nil _ _).mono ?_; rintro e w3 ⟨rfl, hb3⟩)
  go_ret2
  exact ⟨rfl, hb3⟩

set_option maxRecDepth 100000 in
set_option maxHeartbeats 4000000 in
theorem work_nil (w : World) :
    Calls Tryz.prog 13 #[.pointer none] w fun e w' => e = .returned (.tuple #[.bool false, .int .i64 1]) ∧ Below w.heap.size w w' := by
  go_enter Tryz.func13, Tryz.ntmps13
  go_wp2_with (go_at_call 18; with_reducible refine (refusal_nil _).mono ?_; rintro e w3 ⟨rfl, rfl⟩)
  go_ret2
  exact ⟨rfl, Below.refl _ _⟩

theorem setCell_self {W : World} {p : Addr} {v : Value} (h : W.cell? p = some v) : W.setCell p v = W := by
  unfold World.cell? at h
  split at h
  · rename_i c e fz hh
    split at h
    · cases h
    · rename_i hs
      have hc : c.setIfInBounds p.off v = c := by
        apply Array.ext_getElem?
        intro i
        rw [Array.getElem?_setIfInBounds]
        split
        · rename_i e2
          subst e2
          split
          · exact h.symm
          · rename_i h3
            rw [Array.getElem?_eq_none (by omega)] at h
            cases h
        · rfl
      have hm : (W.setCell p v).heap = W.heap := by
        unfold World.setCell
        simp only
        apply Array.ext_getElem?
        intro i
        rw [Array.getElem?_modify]
        split
        · rename_i e2
          subst e2
          rw [hh]
          simp [hs, hc]
        · rfl
      show ({ W with heap := (W.setCell p v).heap } : World) = W
      rw [hm]
  · cases h

set_option maxRecDepth 100000 in
set_option maxHeartbeats 4000000 in
theorem live_nil (w : World) :
    Calls Tryz.prog 14 #[.pointer none] w fun e w' => e = .returned (.agg #[.int .u64 0, .int .u64 0, .int .u64 0, .slice none 0 0, .slice none 0 0, .slice none 0 0, .slice none 0 0]) ∧ Below w.heap.size w w' := by
  obtain ⟨wA, hA⟩ : ∃ wA, w.alloc (.cells #[.int .u64 0, .int .u64 0, .int .u64 0, .slice none 0 0, .slice none 0 0, .slice none 0 0, .slice none 0 0] 45) = wA := ⟨_, rfl⟩
  have bA : Below w.heap.size w wA := by rw [← hA]; exact (Below.refl _ _).alloc (Nat.le_refl _) _
  have o : Ob.Obj wA w.heap.size 45 [.int .u64 0, .int .u64 0, .int .u64 0, .slice none 0 0, .slice none 0 0, .slice none 0 0, .slice none 0 0] := by rw [← hA]; exact Ob.Obj.new w _ _
  have r0 := o.cell 0
  have f0 := o.frozen 0
  have r1 := o.cell 1
  have f1 := o.frozen 1
  have r2 := o.cell 2
  have f2 := o.frozen 2
  have r3 := o.cell 3
  have f3 := o.frozen 3
  have r4 := o.cell 4
  have f4 := o.frozen 4
  have r5 := o.cell 5
  have f5 := o.frozen 5
  have r6 := o.cell 6
  have f6 := o.frozen 6
  have hl := o.lt
  simp at r0 r1 r2 r3 r4 r5 r6
  clear o
  go_enter Tryz.func14, Tryz.ntmps14
  go_wp2_with (go_at_call 18; with_reducible refine (refusal_nil _).mono ?_; rintro e w3 ⟨rfl, rfl⟩)
  rw [setCell_self r0, setCell_self r1, setCell_self r2, setCell_self r3, setCell_self r4, setCell_self r5, setCell_self r6]
  exact bodyPost_ret (v := .agg #[.int .u64 0, .int .u64 0, .int .u64 0, .slice none 0 0, .slice none 0 0, .slice none 0 0, .slice none 0 0]) (by simp [results, Tryz.results14, go_sem, r0, r1, r2, r3, r4, r5, r6]) rfl ⟨rfl, bA⟩

set_option maxRecDepth 100000 in
set_option maxHeartbeats 4000000 in
theorem stats_nil (w : World) :
    Calls Tryz.prog 15 #[.pointer none] w fun e w' => e = .returned (.agg #[.int .u64 0, .int .i64 0, .int .i64 0, .int .i64 0, .int .i64 0, .int .i64 0, .int .i64 0, .int .i64 0, .int .i64 0, .bool false, .int .i64 0, .int .i64 0, .int .u64 0]) ∧ Below w.heap.size w w' := by
  obtain ⟨wA, hA⟩ : ∃ wA, w.alloc (.cells #[.int .u64 0, .int .i64 0, .int .i64 0, .int .i64 0, .int .i64 0, .int .i64 0, .int .i64 0, .int .i64 0, .int .i64 0, .bool false, .int .i64 0, .int .i64 0, .int .u64 0] 49) = wA := ⟨_, rfl⟩
  have bA : Below w.heap.size w wA := by rw [← hA]; exact (Below.refl _ _).alloc (Nat.le_refl _) _
  have o : Ob.Obj wA w.heap.size 49 [.int .u64 0, .int .i64 0, .int .i64 0, .int .i64 0, .int .i64 0, .int .i64 0, .int .i64 0, .int .i64 0, .int .i64 0, .bool false, .int .i64 0, .int .i64 0, .int .u64 0] := by rw [← hA]; exact Ob.Obj.new w _ _
  have r0 := o.cell 0
  have f0 := o.frozen 0
  have r1 := o.cell 1
  have f1 := o.frozen 1
  have r2 := o.cell 2
  have f2 := o.frozen 2
  have r3 := o.cell 3
  have f3 := o.frozen 3
  have r4 := o.cell 4
  have f4 := o.frozen 4
  have r5 := o.cell 5
  have f5 := o.frozen 5
  have r6 := o.cell 6
  have f6 := o.frozen 6
  have r7 := o.cell 7
  have f7 := o.frozen 7
  have r8 := o.cell 8
  have f8 := o.frozen 8
  have r9 := o.cell 9
  have f9 := o.frozen 9
  have r10 := o.cell 10
  have f10 := o.frozen 10
  have r11 := o.cell 11
  have f11 := o.frozen 11
  have r12 := o.cell 12
  have f12 := o.frozen 12
  have hl := o.lt
  simp at r0 r1 r2 r3 r4 r5 r6 r7 r8 r9 r10 r11 r12
  clear o
  go_enter Tryz.func15, Tryz.ntmps15
  go_wp2_with (go_at_call 18; with_reducible refine (refusal_nil _).mono ?_; rintro e w3 ⟨rfl, rfl⟩)
  rw [setCell_self r0, setCell_self r1, setCell_self r2, setCell_self r3, setCell_self r4, setCell_self r5, setCell_self r6, setCell_self r7, setCell_self r8, setCell_self r9, setCell_self r10, setCell_self r11, setCell_self r12]
  exact bodyPost_ret (v := .agg #[.int .u64 0, .int .i64 0, .int .i64 0, .int .i64 0, .int .i64 0, .int .i64 0, .int .i64 0, .int .i64 0, .int .i64 0, .bool false, .int .i64 0, .int .i64 0, .int .u64 0]) (by simp [results, Tryz.results15, go_sem, r0, r1, r2, r3, r4, r5, r6, r7, r8, r9, r10, r11, r12]) rfl ⟨rfl, bA⟩

end Sr
end Go.Proofs.YtoldjbgojjafdaaGreatDoor

/-
  A call that could start goroutines and starts none: at its return nobody else is there, so whoever is there is only leaving.
-/
namespace Go.Proofs.YtoldjbgojjafdaaGreatDoor

namespace Lv
theorem alone_leaves {P : Program} {last : Machine} {w : World} {t : Trace} (h : aloneAtReturn P last w t) : leavingAtReturn P last w t := by
  obtain ⟨⟨h1, h2⟩, h3, h4⟩ := h
  refine ⟨h3, ⟨fun g hg => ⟨0, ?_⟩, h2⟩, h4⟩
  unfold Machine.othersDone at h1
  have := List.all_eq_true.1 h1 g hg
  simpa [Goroutine.LeavesIn] using this
theorem open_leaves {a : Assume} {st : Option Stop.Interp} {C : Checked} {os : Os} {f : FuncId} {r : Reach} {okInput : Program → World → Reach → Nat → FuncId → Input → Prop} {Pre : World → Array Value → Prop} {Post : World → Array Value → Value → World → Prop} {always : Machine → Prop}
    (h : ReturnsInOpen a st C os f r okInput Pre Post (aloneAtReturn C.prog) always) : ReturnsInOpen a st C os f r okInput Pre Post (leavingAtReturn C.prog) always := by
  obtain ⟨h1, h2, h3, h4, h5⟩ := h
  refine ⟨h1, h2, h3, h4, fun w tape i hf => ?_⟩
  obtain ⟨n, v, w', k1, k2, k3, k4, ⟨j, last, e1, e2, e3⟩, k5⟩ := h5 w tape i hf
  exact ⟨n, v, w', k1, k2, k3, k4, ⟨j, last, e1, e2, alone_leaves e3⟩, k5⟩
/-- THE ROW THAT SAYS 'leaving', from the one that says that nobody else is there. -/
theorem leaving {p : Pinned} {s : OpenSpec} (c : OpenClaim) (hst : c.start = .entering) (hss : c.stops = []) (hl : c.leaving = true) (hwf : c.wf s = true) (h : OpenClaim.holds p s { c with leaving := false }) : c.holds p s := by
  obtain ⟨_, h2, h3, h4, h5, h6, h7, h8, f, fn, k1, k2, k3, k4, k5, k6, k7, k8, k9, k10, k11, k12, k13, k14, k15, k16, k17, k18, k19, k20, k21, L, hL, hform⟩ := h
  refine ⟨hwf, h2, h3, h4, h5, h6, h7, h8, f, fn, k1, k2, k3, k4, k5, k6, k7, k8, k9, k10, k11, k12, k13, k14, k15, k16, k17, k18, k19, k20, k21, L, hL, fun os hw hq H enc inj => ?_⟩
  have hf := hform os hw hq H enc inj
  unfold OpenClaim.form at hf ⊢
  simp only [hst, hss] at hf ⊢
  intro F
  have hg := hf F
  have e1 : c.atReturn p.checked.prog = leavingAtReturn p.checked.prog := by unfold OpenClaim.atReturn; rw [hl]
  rw [e1]
  exact open_leaves hg
end Lv
end Go.Proofs.YtoldjbgojjafdaaGreatDoor

/-
  The dump is laid out.
-/
namespace Go.Proofs.YtoldjbgojjafdaaGreatDoor
open Go.RowKit
theorem laidOut : laidOutB Tryz.prog = true := by kernel_rfl
end Go.Proofs.YtoldjbgojjafdaaGreatDoor

/-
  Configurations that came in, opened.
-/
namespace Go.Proofs.YtoldjbgojjafdaaGreatDoor
open Go.RowKit
set_option linter.unusedVariables false
namespace Cp
open Gn
theorem i64c {n : Int} (h : (Lit.int .i64 n).wf = true) : -9223372036854775808 ≤ n ∧ n ≤ 9223372036854775807 := by simpa [Lit.wf, IntKind.min, IntKind.max, IntKind.signed, IntKind.bits] using h
abbrev cfgT : Ty := .struct (.cons (.int .i64) (.cons (.int .i64) (.cons (.int .i64) (.cons (.int .i64) (.cons (.int .i64) (.cons (.int .i64) (.cons (.int .i64) (.cons (.int .u64) .nil))))))))
/-- numbers that come into sums -/
structure CfgIn (c : Cfg) : Prop where
  f0 : -9223372036854775808 ≤ c.files
  f1 : c.files ≤ 9223372036854775807
  b0 : -9223372036854775808 ≤ c.base
  b1 : c.base ≤ 9223372036854775807

variable {H : Type} {enc : TypeId × Value → H} {W : World}
set_option maxRecDepth 100000 in
theorem open_cfg {B : Nat} {v : Value} {d : DataW H} {p : List MemPlace} {base : Nat} (hv : Value.okWide Tryz.prog W .any base 24 v)
    (h : DataW.Trod enc Tryz.prog W 0 (fun _ => true) true 24 v d p) (hlt : ∀ x ∈ p, x.block < W.heap.size) (_ : 0 ≤ 1) :
    ∃ c : Cfg, v = cfgV c ∧ CfgIn c := by
  obtain ⟨cs, x, rfl, hx, _⟩ := open_val cfgT (by kernel_rfl) hv h (Nat.le_refl _)
  obtain ⟨x0, x1, x2, x3, x4, x5, x6, x7, uu⟩ := x
  obtain ⟨c1, d1, rfl, _, ⟨rfl, w1⟩, c2, d2, rfl, _, ⟨rfl, w2⟩, c3, d3, rfl, _, ⟨rfl, w3⟩, c4, d4, rfl, _, ⟨rfl, w4⟩, c5, d5, rfl, _, ⟨rfl, w5⟩, c6, d6, rfl, _, ⟨rfl, w6⟩, c7, d7, rfl, _, ⟨rfl, w7⟩, c8, d8, rfl, _, ⟨rfl, w8⟩, rfl⟩ := hx
  obtain ⟨q1, q2⟩ := i64c w5
  obtain ⟨q3, q4⟩ := i64c w6
  exact ⟨⟨x0, x1, x2, x3, x4, x5, x6, x7⟩, rfl, ⟨q1, q2, q3, q4⟩⟩
end Cp
end Go.Proofs.YtoldjbgojjafdaaGreatDoor
