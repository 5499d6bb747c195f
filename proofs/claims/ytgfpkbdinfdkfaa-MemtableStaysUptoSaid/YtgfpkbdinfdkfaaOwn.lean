/-
  Plain data that a call has made itself, in rows of its own at B or above: kept, read, and put together by append. (What came in: XGen.)
-/
import Derived.Test.YtgfpkbdinfdkfaaGen
import Derived.Test.YtgfpkbdinfdkfaaObj
namespace Go.Proofs.Ytgfpkbdinfdkfaa
open Go.RowKit
set_option linter.unusedVariables false
namespace Gn

/-- a row of elements, each of so many cells -/
def OwL (W : World) (B : Nat) (te : TypeId) (sz : Nat) {α : Type} (ow : List Value → α → Prop) (v : Value) (l : List α) : Prop :=
  ∃ rows : List (List Value), rows.length = l.length ∧ W.ownsRow B te sz v l.length rows.flatten ∧ ∀ j (h : j < l.length) (h' : j < rows.length), rows[j].length = sz ∧ ow rows[j] l[j]
mutual
def OwC (P : Program) (B : Nat) (W : World) : (t : Ty) → TypeId → List Value → t.Den → Prop
  | .int k, _, cs, (a : Int) => cs = [.int k a] ∧ (Lit.int k a).wf = true
  | .bool, _, cs, (x : Bool) => cs = [.bool x]
  | .str, _, cs, (l : List UInt8) => cs = [.string ⟨l.toArray⟩] ∧ l.length ≤ maxLen
  | .slice e, ti, cs, (l : List e.Den) => ∃ te v, P.underlying ti = some (.slice te) ∧ cs = [v] ∧ OwL W B te e.size (OwC P B W e te) v l
  | .struct fs, ti, cs, d => ∃ Fs, P.underlying ti = some (.struct Fs) ∧ OwCs P B W fs Fs.toList cs d
def OwCs (P : Program) (B : Nat) (W : World) : (fs : Tys) → List Field → List Value → fs.Den → Prop
  | .nil, _, cs, _ => cs = []
  | .cons t r, l, cs, d => ∃ f l' c1 c2, l = f :: l' ∧ cs = c1 ++ c2 ∧ c1.length = t.size ∧ OwC P B W t f.type c1 d.1 ∧ OwCs P B W r l' c2 d.2
end
mutual
/-- the element types of the rows within -/
def Ty.rowsOf (P : Program) : Ty → TypeId → List TypeId
  | .slice e, ti => (match P.underlying ti with | some (.slice te) => te :: e.rowsOf P te | _ => [])
  | .struct fs, ti => (match P.underlying ti with | some (.struct Fs) => fs.rowsOf P Fs.toList | _ => [])
  | .int _, _ => []
  | .bool, _ => []
  | .str, _ => []
def Tys.rowsOf (P : Program) : Tys → List Field → List TypeId
  | .nil, _ => []
  | .cons t r, l => (match l with | f :: l' => t.rowsOf P f.type ++ r.rowsOf P l' | [] => [])
end

/-- of the rows of these types at B or above none has turned -/
def Spared (B : Nat) (X : List TypeId) (W W' : World) : Prop := ∀ k c te fz, B ≤ k → te ∈ X → W.heap[k]? = some (.cells c te fz) → W'.heap[k]? = W.heap[k]?
theorem Spared.less {B : Nat} {X Y : List TypeId} {W W' : World} (h : Spared B X W W') (hs : ∀ t ∈ Y, t ∈ X) : Spared B Y W W' := fun k c te fz hk ht => h k c te fz hk (hs te ht)
theorem Spared.of_kept {B : Nat} {X : List TypeId} {W W' : World} {T : Sq.Blocks} (h : Sq.Kept T W W') (hT : ∀ k, B ≤ k → k < W.heap.size → T k) : Spared B X W W' :=
  fun k c te fz hk _ hh => h.block k (hT k hk (Array.getElem?_eq_some_iff.1 hh).1) (Array.getElem?_eq_some_iff.1 hh).1
theorem Spared.below {B : Nat} {X : List TypeId} {W W' : World} (h : Below W.heap.size W W') : Spared B X W W' :=
  fun k c te fz hk _ hh => h.block k (Array.getElem?_eq_some_iff.1 hh).1
theorem Spared.alloc {B : Nat} {X : List TypeId} (W : World) (o : Go.Obj) : Spared B X W (W.alloc o) := Spared.below ((Below.refl _ _).alloc (Nat.le_refl _) _)
/-- an append to a row of another type -/
theorem Spared.grown {B B' : Nat} {X : List TypeId} {W W' : World} {te : TypeId} {sz m : Nat} {v : Value} {xs : List Value} (hr : W.ownsRow B' te sz v m xs) (hg : W.grownBy W' v.ownBlock) (hX : te ∉ X) : Spared B X W W' := by
  intro k c t' fz hk ht hh
  refine hg.block k (Array.getElem?_eq_some_iff.1 hh).1 (fun e => ?_)
  rcases hr.2 with ⟨rfl, _⟩ | ⟨g, cap, cur, rfl, _, hgb, _⟩
  · simp [Value.ownBlock] at e
  · obtain rfl : k = g := by simpa [Value.ownBlock] using e
    rw [hgb] at hh
    injection hh with hh
    injection hh with _ h2 _
    exact hX (h2 ▸ ht)
/-- a store into an object of another type -/
theorem Spared.set {B : Nat} {X : List TypeId} {W : World} {b : Nat} {t : TypeId} {cs : List Value} (ho : Ob.Obj W b t cs) (j : Nat) (u : Value) (hX : t ∉ X) : Spared B X W (W.setCell ⟨b, j, none⟩ u) := by
  intro k c t' fz hk ht hh
  refine Below.heap_setCell _ _ _ _ (fun e => ?_)
  simp only at e
  subst e
  have := (show W.heap[k]? = _ from ho).symm.trans hh
  injection this with h1
  injection h1 with _ h2 _
  exact hX (h2 ▸ ht)
theorem row_spared {B : Nat} {X : List TypeId} {W W' : World} {te : TypeId} {sz m : Nat} {v : Value} {xs : List Value} (h : W.ownsRow B te sz v m xs) (hs : Spared B X W W') (ht : te ∈ X) : W'.ownsRow B te sz v m xs := by
  rcases h with ⟨h0, h1 | ⟨g, cap, cur, h1, h2, h3, h4⟩⟩
  · exact ⟨h0, .inl h1⟩
  · exact ⟨h0, .inr ⟨g, cap, cur, h1, h2, (hs g _ te _ h2 ht h3).trans h3, h4⟩⟩
theorem row_lower {W : World} {B B' : Nat} {e : TypeId} {sz m : Nat} {v : Value} {xs : List Value} (h : W.ownsRow B e sz v m xs) (hB : B' ≤ B) : W.ownsRow B' e sz v m xs := by
  rcases h with ⟨h0, h1 | ⟨g, cap, cur, h1, h2, h3, h4⟩⟩
  · exact ⟨h0, .inl h1⟩
  · exact ⟨h0, .inr ⟨g, cap, cur, h1, Nat.le_trans hB h2, h3, h4⟩⟩
mutual
theorem OwC.spared {P : Program} {B : Nat} {W W' : World} : ∀ (t : Ty) {ti : TypeId} {cs : List Value} {d : t.Den}, OwC P B W t ti cs d → Spared B (t.rowsOf P ti) W W' → OwC P B W' t ti cs d
  | .int k, _, cs, d, h, _ => h
  | .bool, _, cs, d, h, _ => h
  | .str, _, cs, d, h, _ => h
  | .slice e, ti, cs, d, h, hs => by
    obtain ⟨te, v, hu, h1, rows, h2, h3, h4⟩ := h
    have hro : (Ty.slice e).rowsOf P ti = te :: e.rowsOf P te := by simp only [Ty.rowsOf, hu]
    rw [hro] at hs
    exact ⟨te, v, hu, h1, rows, h2, row_spared h3 hs (List.mem_cons_self ..), fun j hj hj' => ⟨(h4 j hj hj').1, OwC.spared e (h4 j hj hj').2 (hs.less (fun t ht => List.mem_cons_of_mem _ ht))⟩⟩
  | .struct fs, ti, cs, d, h, hs => by
    obtain ⟨Fs, hu, h⟩ := h
    have hro : (Ty.struct fs).rowsOf P ti = fs.rowsOf P Fs.toList := by simp only [Ty.rowsOf, hu]
    rw [hro] at hs
    exact ⟨Fs, hu, OwCs.spared fs h hs⟩
theorem OwCs.spared {P : Program} {B : Nat} {W W' : World} : ∀ (fs : Tys) {l : List Field} {cs : List Value} {d : fs.Den}, OwCs P B W fs l cs d → Spared B (fs.rowsOf P l) W W' → OwCs P B W' fs l cs d
  | .nil, l, cs, d, h, _ => h
  | .cons t r, l, cs, d, h, hs => by
    obtain ⟨f, l', c1, c2, rfl, h2, h3, h4, h5⟩ := h
    have hro : (Tys.cons t r).rowsOf P (f :: l') = t.rowsOf P f.type ++ r.rowsOf P l' := rfl
    rw [hro] at hs
    exact ⟨f, l', c1, c2, rfl, h2, h3, OwC.spared t h4 (hs.less (fun t ht => List.mem_append_left _ ht)), OwCs.spared r h5 (hs.less (fun t ht => List.mem_append_right _ ht))⟩
end
mutual
theorem OwC.lower {P : Program} {B B' : Nat} {W : World} (hB : B' ≤ B) : ∀ (t : Ty) {ti : TypeId} {cs : List Value} {d : t.Den}, OwC P B W t ti cs d → OwC P B' W t ti cs d
  | .int k, _, cs, d, h => h
  | .bool, _, cs, d, h => h
  | .str, _, cs, d, h => h
  | .slice e, ti, cs, d, h => by
    obtain ⟨te, v, hu, h1, rows, h2, h3, h4⟩ := h
    exact ⟨te, v, hu, h1, rows, h2, row_lower h3 hB, fun j hj hj' => ⟨(h4 j hj hj').1, OwC.lower hB e (h4 j hj hj').2⟩⟩
  | .struct fs, ti, cs, d, h => by
    obtain ⟨Fs, hu, h⟩ := h
    exact ⟨Fs, hu, OwCs.lower hB fs h⟩
theorem OwCs.lower {P : Program} {B B' : Nat} {W : World} (hB : B' ≤ B) : ∀ (fs : Tys) {l : List Field} {cs : List Value} {d : fs.Den}, OwCs P B W fs l cs d → OwCs P B' W fs l cs d
  | .nil, l, cs, d, h => h
  | .cons t r, l, cs, d, h => by
    obtain ⟨f, l', c1, c2, rfl, h2, h3, h4, h5⟩ := h
    exact ⟨f, l', c1, c2, rfl, h2, h3, OwC.lower hB t h4, OwCs.lower hB r h5⟩
end
theorem flatten_get {sz : Nat} : ∀ (rows : List (List Value)), (∀ j (h : j < rows.length), rows[j].length = sz) → ∀ j (h : j < rows.length) k, k < sz → rows.flatten[j * sz + k]? = rows[j][k]?
  | [], _, j, h, _, _ => by simp at h
  | r :: rs, hl, 0, _, k, hk => by
    have h0 := hl 0 (by simp)
    simp only [List.getElem_cons_zero] at h0
    rw [List.flatten_cons, Nat.zero_mul, Nat.zero_add, List.getElem?_append_left (by omega)]
    rfl
  | r :: rs, hl, j + 1, h, k, hk => by
    have h0 := hl 0 (by simp)
    simp only [List.getElem_cons_zero] at h0
    have := flatten_get rs (fun i hi => by have := hl (i + 1) (by simpa using hi); simpa using this) j (by simpa using h) k hk
    rw [List.flatten_cons, List.getElem?_append_right (by rw [h0, Nat.succ_mul]; omega), h0, show (j + 1) * sz + k - sz = j * sz + k by rw [Nat.succ_mul]; omega]
    exact this
theorem flatten_len {sz : Nat} : ∀ (rows : List (List Value)), (∀ j (h : j < rows.length), rows[j].length = sz) → rows.flatten.length = rows.length * sz
  | [], _ => by simp
  | r :: rs, hl => by
    have h0 := hl 0 (by simp)
    simp only [List.getElem_cons_zero] at h0
    rw [List.flatten_cons, List.length_append, h0, flatten_len rs (fun i hi => by have := hl (i + 1) (by simpa using hi); simpa using this), List.length_cons, Nat.succ_mul]
    omega
theorem row_at {W : World} {B : Nat} {te : TypeId} {sz m : Nat} {v : Value} {xs : List Value} (h : W.ownsRow B te sz v m xs) :
    ∃ (a : Option Addr) (cap b : Nat), v = .slice a m cap ∧ m ≤ cap ∧ cap ≤ maxLen ∧ (0 < m → a = some ⟨b, 0, none⟩ ∧ B ≤ b ∧ b < W.heap.size ∧ ∀ j, j < m * sz → W.cell? ⟨b, j, none⟩ = xs[j]?) := by
  have hc := h
  rcases h.2 with ⟨rfl, rfl⟩ | ⟨g, cap, cur, rfl, h2, h3, h4, h5, h6⟩
  · exact ⟨none, 0, 0, rfl, Nat.le_refl _, Nat.zero_le _, fun h => by omega⟩
  · refine ⟨_, cap, g, rfl, h4, h5, fun _ => ⟨rfl, h2, (Array.getElem?_eq_some_iff.1 h3).1, fun j hj => ?_⟩⟩
    exact hc.cellAt j hj
mutual
theorem OwC.rd {P : Program} {B : Nat} {W : World} : ∀ (t : Ty) {ti : TypeId} {cs : List Value} {d : t.Den}, OwC P B W t ti cs d → RdC W.heap.size W t cs d
  | .int k, _, cs, d, h => h
  | .bool, _, cs, d, h => h
  | .str, _, cs, d, h => h
  | .slice e, ti, cs, d, h => by
    obtain ⟨te, v, hu, rfl, rows, h2, h3, h4⟩ := h
    obtain ⟨a, cap, b, rfl, g1, g2, g3⟩ := row_at h3
    refine ⟨a, cap, b, 0, rfl, g1, g2, fun h => ⟨(g3 h).1, (g3 h).2.2.1⟩, fun j hj => ?_⟩
    have hj' : j < rows.length := by omega
    obtain ⟨k1, k2⟩ := h4 j hj hj'
    refine ⟨rows[j], k1, fun k hk => ?_, OwC.rd e k2⟩
    have hlt : j * e.size + k < d.length * e.size := by
      have : (j + 1) * e.size ≤ d.length * e.size := Nat.mul_le_mul_right _ (by omega)
      rw [Nat.succ_mul] at this; omega
    rw [Nat.zero_add, (g3 (by omega)).2.2.2 _ hlt, flatten_get rows (fun i hi => (h4 i (by omega) hi).1) j hj' k hk]
  | .struct fs, ti, cs, d, h => by
    obtain ⟨Fs, hu, h⟩ := h
    exact OwCs.rd fs h
theorem OwCs.rd {P : Program} {B : Nat} {W : World} : ∀ (fs : Tys) {l : List Field} {cs : List Value} {d : fs.Den}, OwCs P B W fs l cs d → RdCs W.heap.size W fs cs d
  | .nil, l, cs, d, h => h
  | .cons t r, l, cs, d, h => by
    obtain ⟨f, l', c1, c2, rfl, h2, h3, h4, h5⟩ := h
    exact ⟨c1, c2, h2, h3, OwC.rd t h4, OwCs.rd r h5⟩
end
theorem OwL.nil {W : World} {B : Nat} {te : TypeId} {sz : Nat} {α : Type} {ow : List Value → α → Prop} : OwL W B te sz ow (.slice none 0 0) ([] : List α) :=
  ⟨[], rfl, World.ownsRow_nil _ _ _ _, fun j h => by simp at h⟩
/-- behind the append of one element: its row may lie elsewhere now -/
theorem OwL.snoc {P : Program} {W W2 : World} {B : Nat} {te : TypeId} {e : Ty} {v v2 : Value} {l : List e.Den} {rows : List (List Value)} {cs : List Value} {x : e.Den}
    (hr : rows.length = l.length) (hel : ∀ j (h : j < l.length) (h' : j < rows.length), rows[j].length = e.size ∧ OwC P B W e te rows[j] l[j]) (hx : OwC P B W e te cs x) (hcs : cs.length = e.size)
    (hown : W2.ownsRow B te e.size v2 (l.length + 1) (rows.flatten ++ cs)) (hs : Spared B (e.rowsOf P te) W W2) : OwL W2 B te e.size (OwC P B W2 e te) v2 (l ++ [x]) := by
  refine ⟨rows ++ [cs], by simp [hr], ?_, fun j h h' => ?_⟩
  · rw [List.length_append, List.length_singleton, List.flatten_append]
    simpa using hown
  · by_cases hj : j < l.length
    · rw [List.getElem_append_left hj, List.getElem_append_left (by omega)]
      exact ⟨(hel j hj (by omega)).1, OwC.spared e (hel j hj (by omega)).2 hs⟩
    · obtain rfl : j = l.length := by simp at h; omega
      rw [List.getElem_append_right (Nat.le_refl _), List.getElem_append_right (by omega)]
      simp only [Nat.sub_self, List.getElem_cons_zero, hr]
      exact ⟨hcs, OwC.spared e hx hs⟩
end Gn
end Go.Proofs.Ytgfpkbdinfdkfaa
