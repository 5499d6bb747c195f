/-
  Whatever plain data came in (numbers, bools, texts, slices and structs of these, nested), opened once for all: what it reads as, and where its cells lie.
-/
import Derived.Test.YtghggkopbkhfpaaGreatBulk
import Derived.Deep.Slices
import Derived.Carry
import Derived.WideShapes
import Derived.RowKit
import Derived.Below
import Derived.Laws.Pointers
namespace Go.Proofs.YtghggkopbkhfpaaGreat
open Go.RowKit Go.ChangeShapes Go.WideShapes Go.Deep
set_option linter.unusedVariables false
namespace Gn

mutual
inductive Ty where
  | int (k : IntKind)
  | bool
  | str
  | slice (e : Ty)
  | struct (fs : Tys)
inductive Tys where
  | nil
  | cons (t : Ty) (r : Tys)
end
mutual
/-- what a value of the type reads as -/
def Ty.Den : Ty → Type
  | .int _ => Int
  | .bool => Bool
  | .str => List UInt8
  | .slice e => List e.Den
  | .struct fs => fs.Den
def Tys.Den : Tys → Type
  | .nil => Unit
  | .cons t r => t.Den × r.Den
end
mutual
/-- how many cells -/
def Ty.size : Ty → Nat
  | .int _ => 1
  | .bool => 1
  | .str => 1
  | .slice _ => 1
  | .struct fs => fs.size
def Tys.size : Tys → Nat
  | .nil => 0
  | .cons t r => t.size + r.size
end
mutual
/-- the program's type ti is of this form -/
def Ty.isB (P : Program) : Ty → TypeId → Bool
  | .int k, ti => (match P.underlying ti with | some (.int k') => decide (k' = k) | _ => false)
  | .bool, ti => (match P.underlying ti with | some .bool => true | _ => false)
  | .str, ti => (match P.underlying ti with | some .string => true | _ => false)
  | .slice e, ti => (match P.underlying ti with | some (.slice te) => P.cellsOf te == e.size && decide (0 < e.size) && e.isB P te | _ => false)
  | .struct fs, ti => (match P.underlying ti with | some (.struct Fs) => P.cellsOf ti == fs.size && fs.areB P Fs.toList 0 | _ => false)
def Tys.areB (P : Program) : Tys → List Field → Nat → Bool
  | .nil, l, _ => l.isEmpty
  | .cons t r, l, o => (match l with | f :: l' => f.offset == o && P.cellsOf f.type == t.size && t.isB P f.type && r.areB P l' (o + t.size) | [] => false)
end
mutual
/-- how much it is -/
def Ty.bulk : (t : Ty) → t.Den → Nat
  | .int _, _ => 1
  | .bool, _ => 1
  | .str, (l : List UInt8) => l.length + 1
  | .slice e, (l : List e.Den) => (l.map fun d => e.bulk d).sum + 1
  | .struct fs, d => fs.bulk d + 1
def Tys.bulk : (fs : Tys) → fs.Den → Nat
  | .nil, _ => 0
  | .cons t r, d => t.bulk d.1 + r.bulk d.2
end
/-- the slice's own cells: where they lie -/
def RdL (B : Nat) (W : World) {α : Type} (sz : Nat) (rd : List Value → α → Prop) (cs : List Value) (l : List α) : Prop :=
  ∃ (a : Option Addr) (cap b off : Nat), cs = [.slice a l.length cap] ∧ l.length ≤ cap ∧ cap ≤ maxLen ∧ (0 < l.length → a = some ⟨b, off, none⟩ ∧ b < B) ∧
    ∀ j (h : j < l.length), ∃ cs', cs'.length = sz ∧ (∀ k, k < sz → W.cell? ⟨b, off + j * sz + k, none⟩ = cs'[k]?) ∧ rd cs' l[j]
mutual
/-- cells read as a datum -/
def RdC (B : Nat) (W : World) : (t : Ty) → List Value → t.Den → Prop
  | .int k, cs, (a : Int) => cs = [.int k a] ∧ (Lit.int k a).wf = true
  | .bool, cs, (x : Bool) => cs = [.bool x]
  | .str, cs, (l : List UInt8) => cs = [.string ⟨l.toArray⟩] ∧ l.length ≤ maxLen
  | .slice e, cs, (l : List e.Den) => RdL B W e.size (RdC B W e) cs l
  | .struct fs, cs, d => RdCs B W fs cs d
def RdCs (B : Nat) (W : World) : (fs : Tys) → List Value → fs.Den → Prop
  | .nil, cs, _ => cs = []
  | .cons t r, cs, d => ∃ c1 c2, cs = c1 ++ c2 ∧ c1.length = t.size ∧ RdC B W t c1 d.1 ∧ RdCs B W r c2 d.2
end
/-- the value of these cells -/
def Ty.pack : Ty → List Value → Value
  | .struct _, cs => .agg cs.toArray
  | _, cs => cs.headD undef

theorem list_of {α : Type} {Q : Nat → α → Prop} : ∀ {len : Nat}, (∀ i, i < len → ∃ d, Q i d) → ∃ l : List α, l.length = len ∧ ∀ i (h : i < l.length), Q i l[i]
  | 0, _ => ⟨[], rfl, fun i h => by simp at h⟩
  | len + 1, hf => by
    obtain ⟨l, hl, hq⟩ := list_of (len := len) (fun i hi => hf i (by omega))
    obtain ⟨d, hd⟩ := hf len (by omega)
    refine ⟨l ++ [d], by simp [hl], fun i hi => ?_⟩
    by_cases h : i < l.length
    · rw [List.getElem_append_left h]; exact hq i h
    · obtain rfl : i = l.length := by simp at hi; omega
      rw [List.getElem_append_right (Nat.le_refl _)]
      simp only [Nat.sub_self, List.getElem_cons_zero]
      rw [hl]; exact hd
theorem sum_le {α : Type} (f : α → Nat) (g : Nat → Nat) : ∀ (len : Nat) (l : List α), l.length = len → (∀ i (h : i < l.length), f l[i] ≤ g i) → (l.map f).sum ≤ ((List.range len).map g).sum
  | 0, l, hl, _ => by have := List.eq_nil_of_length_eq_zero hl; subst this; simp
  | len + 1, l, hl, h => by
    have hlt : len < l.length := by omega
    have e : l = l.take len ++ [l[len]] := by rw [← List.take_succ_eq_append_getElem hlt, List.take_of_length_le (by omega)]
    have ih := sum_le f g len (l.take len) (by simp; omega) (fun i hi => by
      have hi' : i < l.length := by simp at hi; omega
      have := h i hi'
      rw [List.getElem_take]; exact this)
    have hlast := h len hlt
    rw [List.range_succ, List.map_append, List.sum_append]
    have e2 : (l.map f).sum = ((l.take len).map f).sum + f l[len] := by
      conv => lhs; rw [e]
      rw [List.map_append, List.sum_append]; simp
    rw [e2]
    simp only [List.map_cons, List.map_nil, List.sum_cons, List.sum_nil]; omega
theorem spotless {W : World} {a : Addr} {v : Value} (h : W.cell? (a.add 0) = some v) : a.spot = none := by
  cases hs : a.spot with
  | none => rfl
  | some sp =>
    have : W.cell? (a.add 0) = none := by
      unfold World.cell?
      have : (a.add 0).spot.isSome = true := by unfold Addr.add; split <;> simp_all
      split <;> simp_all
    rw [this] at h; cases h
theorem add_of (b off k : Nat) : (⟨b, off, none⟩ : Addr).add k = ⟨b, off + k, none⟩ := by unfold Addr.add; split <;> simp_all

section
variable {H : Type} {enc : TypeId × Value → H} {P : Program} {W : World}
mutual
/-- WHATEVER CAME IN READS AS A DATUM OF ITS TYPE. -/
theorem open_ty : ∀ (t : Ty) {ti : TypeId}, t.isB P ti = true → ∀ {fuel : Nat} {cs : List Value} {x : DataW H × List MemPlace}, DataW.trod enc P W 0 (fun _ => true) true fuel ti cs = some x →
    ∃ d : t.Den, RdC W.heap.size W t cs d ∧ t.bulk d ≤ Rows.uptoBulk x.1
  | .int k, ti, hi, fuel, cs, x, h => by
    unfold Ty.isB at hi
    split at hi <;> try cases hi
    rename_i k' hk
    obtain rfl : k' = k := by simpa using hi
    obtain ⟨a, rfl, rfl, hw⟩ := DataW.trod_int hk h
    exact ⟨a, ⟨rfl, hw⟩, Nat.le_refl _⟩
  | .bool, ti, hi, fuel, cs, x, h => by
    unfold Ty.isB at hi
    split at hi <;> try cases hi
    rename_i hk
    obtain ⟨a, rfl, rfl⟩ := DataW.trod_bool hk h
    exact ⟨a, rfl, Nat.le_refl _⟩
  | .str, ti, hi, fuel, cs, x, h => by
    unfold Ty.isB at hi
    split at hi <;> try cases hi
    rename_i hk
    obtain ⟨s, rfl, rfl, hw⟩ := DataW.trod_string hk h
    exact ⟨s.data.toList, ⟨rfl, by simpa using hw⟩, Nat.le_refl _⟩
  | .slice e, ti, hi, fuel, cs, x, h => by
    unfold Ty.isB at hi
    split at hi <;> try cases hi
    rename_i te hk
    simp only [Bool.and_eq_true, beq_iff_eq, decide_eq_true_eq] at hi
    obtain ⟨⟨hsz, hpos⟩, he⟩ := hi
    rcases open_slice hk h with ⟨rfl, rfl⟩ | ⟨a, len, cap, m, n, D, Pl, rfl, _, hl, hm, hmm, rfl, hel⟩
    · exact ⟨([] : List e.Den), ⟨none, 0, 0, 0, rfl, Nat.le_refl _, Nat.zero_le _, fun h => by simp at h, fun j h => by simp at h⟩, by simp [Ty.bulk, Rows.uptoBulk]⟩
    · have hlm : len ≤ m := by rw [hmm]; split <;> omega
      rw [hsz] at hel
      obtain ⟨l, hll, hq⟩ := list_of (len := len) (Q := fun i d => (∃ cs', cs'.length = e.size ∧ (∀ k, k < e.size → W.cell? (a.add (i * e.size + k)) = cs'[k]?) ∧ RdC W.heap.size W e cs' d) ∧ e.bulk d ≤ Rows.uptoBulk (D i)) (fun i hi' => by
        obtain ⟨cs', h1, h2⟩ := hel i (by omega)
        obtain ⟨d, hd, hb⟩ := open_ty e he h2
        obtain ⟨_, hlen, hcell⟩ := World.cells?_some h1
        refine ⟨d, ⟨cs', hlen, fun k hk' => ?_, hd⟩, hb⟩
        have := hcell k (by omega)
        rw [Go.Deep.add_add] at this
        exact this)
      have hsum := sum_le (fun d => e.bulk d) (fun i => Rows.uptoBulk (D i)) len l hll (fun i h => (hq i h).2)
      have hbk : Ty.bulk (.slice e) l ≤ Rows.uptoBulk (DataW.slice ((List.range len).map D) ((List.range (m - len)).map fun j => D (len + j))) := by
        simp only [Ty.bulk, Rows.uptoBulk, Bk.all_range]; omega
      subst hll
      by_cases h0 : 0 < l.length
      · obtain ⟨⟨cs0, hl0, hc0, _⟩, _⟩ := hq 0 h0
        have hc := hc0 0 hpos
        rw [List.getElem?_eq_getElem (by omega)] at hc
        simp only [Nat.zero_mul, Nat.add_zero] at hc
        have hsp := spotless hc
        obtain ⟨b, off, sp⟩ := a
        simp only at hsp
        subst hsp
        refine ⟨l, ⟨some ⟨b, off, none⟩, cap, b, off, rfl, hl, hm, fun _ => ⟨rfl, ?_⟩, fun j hj => ?_⟩, hbk⟩
        · have := World.block_lt_of_cell? W _ hc
          rw [add_of] at this; exact this
        · obtain ⟨cs', g1, g2, g3⟩ := (hq j hj).1
          refine ⟨cs', g1, fun k hk' => ?_, g3⟩
          have := g2 k hk'
          rw [add_of] at this
          rw [Nat.add_assoc]; exact this
      · exact ⟨l, ⟨some a, cap, 0, 0, rfl, hl, hm, fun h => absurd h h0, fun j hj => absurd hj (by omega)⟩, hbk⟩
  | .struct fs, ti, hi, fuel, cs, x, h => by
    unfold Ty.isB at hi
    split at hi <;> try cases hi
    rename_i Fs hk
    simp only [Bool.and_eq_true, beq_iff_eq] at hi
    obtain ⟨hsz, hfs⟩ := hi
    obtain ⟨xs, n, _, rfl, hlen, hxl, hg⟩ := DataW.trod_struct hk h
    obtain ⟨d, hd, hb⟩ := open_tys fs (o := 0) (l := Fs.toList) (cs := cs) (xs := xs) (n := n) hfs (by rw [hlen, hsz, Nat.zero_add]) (by simpa using hxl) (fun i f hf => hg i f (by simpa using hf))
    refine ⟨d, by simpa [RdC] using hd, ?_⟩
    simp only [Ty.bulk, Rows.uptoBulk]
    omega
theorem open_tys : ∀ (fs : Tys) {o : Nat} {l : List Field} {cs : List Value} {xs : List (DataW H × List MemPlace)} {n : Nat}, fs.areB P l o = true → cs.length = o + fs.size → xs.length = l.length →
    (∀ (i : Nat) (f : Field), l[i]? = some f → DataW.trod enc P W 0 (fun _ => true) true n f.type ((cs.drop f.offset).take (P.cellsOf f.type)) = xs[i]?) →
    ∃ d : fs.Den, RdCs W.heap.size W fs (cs.drop o) d ∧ fs.bulk d ≤ Rows.uptoBulkAll (xs.map (·.1))
  | .nil, o, l, cs, xs, n, ha, hlen, hxl, hg => by
    refine ⟨(), ?_, Nat.zero_le _⟩
    simp only [RdCs]
    exact List.drop_eq_nil_of_le (by simp only [Tys.size] at hlen; omega)
  | .cons t r, o, l, cs, xs, n, ha, hlen, hxl, hg => by
    unfold Tys.areB at ha
    match l, xs, hxl with
    | [], _, _ => simp at ha
    | f :: l', [], hxl => simp at hxl
    | f :: l', y :: ys, hxl =>
      simp only [Bool.and_eq_true, beq_iff_eq] at ha
      obtain ⟨⟨⟨ho, hsz⟩, hty⟩, hr⟩ := ha
      simp only [Tys.size] at hlen
      have h0 := hg 0 f rfl
      rw [ho, hsz] at h0
      obtain ⟨d1, hd1, hb1⟩ := open_ty t hty h0
      obtain ⟨d2, hd2, hb2⟩ := open_tys r (o := o + t.size) (l := l') (cs := cs) (xs := ys) (n := n) hr (by omega) (by simpa using hxl) (fun i f' hf' => by
        have := hg (i + 1) f' (by simpa using hf')
        simpa using this)
      refine ⟨(d1, d2), ?_, ?_⟩
      · refine ⟨(cs.drop o).take t.size, (cs.drop o).drop t.size, (List.take_append_drop _ _).symm, ?_, hd1, ?_⟩
        · rw [List.length_take, List.length_drop]; omega
        · rw [List.drop_drop]; exact hd2
      · simp only [Tys.bulk, List.map_cons, Rows.uptoBulkAll]; omega
end

/-- .. AND SO DOES A PARAMETER. -/
theorem open_val (t : Ty) {ti : TypeId} {B base : Nat} {v : Value} {d : DataW H} {p : List MemPlace} (hi : t.isB P ti = true) (hv : Value.okWide P W .any base ti v)
    (h : DataW.Trod enc P W 0 (fun _ => true) true ti v d p) (hB : Rows.uptoBulk d ≤ B) : ∃ (cs : List Value) (x : t.Den), v = t.pack cs ∧ RdC W.heap.size W t cs x ∧ t.bulk x ≤ B := by
  obtain ⟨fuel, hf⟩ := h
  obtain ⟨x, hx, hb⟩ := open_ty t hi hf
  refine ⟨v.cells.toList, x, ?_, hx, Nat.le_trans hb hB⟩
  cases t with
  | int k =>
    unfold Ty.isB at hi
    split at hi <;> try cases hi
    rename_i k' hk
    obtain ⟨n, rfl⟩ := okWide_int hk hv
    rfl
  | bool =>
    unfold Ty.isB at hi
    split at hi <;> try cases hi
    rename_i hk
    obtain ⟨n, rfl⟩ := okWide_bool hk hv
    rfl
  | str =>
    unfold Ty.isB at hi
    split at hi <;> try cases hi
    rename_i hk
    obtain ⟨n, rfl⟩ := okWide_string hk hv
    rfl
  | slice e =>
    unfold Ty.isB at hi
    split at hi <;> try cases hi
    rename_i te hk
    obtain ⟨a, len, cap, rfl⟩ := okWide_slice hk hv
    rfl
  | struct fs =>
    unfold Ty.isB at hi
    split at hi <;> try cases hi
    rename_i Fs hk
    obtain ⟨cs, rfl, _⟩ := okWide_struct hk hv
    simp [Ty.pack, Value.cells]
end

/-! ### it stays -/
mutual
theorem RdC.kept {B : Nat} {W W' : World} (hk : ∀ b off, b < B → W'.cell? ⟨b, off, none⟩ = W.cell? ⟨b, off, none⟩) : ∀ (t : Ty) {cs : List Value} {d : t.Den}, RdC B W t cs d → RdC B W' t cs d
  | .int k, cs, d, h => h
  | .bool, cs, d, h => h
  | .str, cs, d, h => h
  | .slice e, cs, d, h => by
    obtain ⟨a, cap, b, off, h1, h2, h3, h4, h5⟩ := h
    refine ⟨a, cap, b, off, h1, h2, h3, h4, fun j hj => ?_⟩
    obtain ⟨cs', g1, g2, g3⟩ := h5 j hj
    exact ⟨cs', g1, fun k hk' => (hk b _ (h4 (by omega)).2).trans (g2 k hk'), RdC.kept hk e g3⟩
  | .struct fs, cs, d, h => RdCs.kept hk fs h
theorem RdCs.kept {B : Nat} {W W' : World} (hk : ∀ b off, b < B → W'.cell? ⟨b, off, none⟩ = W.cell? ⟨b, off, none⟩) : ∀ (fs : Tys) {cs : List Value} {d : fs.Den}, RdCs B W fs cs d → RdCs B W' fs cs d
  | .nil, cs, d, h => h
  | .cons t r, cs, d, h => by
    obtain ⟨c1, c2, h1, h2, h3, h4⟩ := h
    exact ⟨c1, c2, h1, h2, RdC.kept hk t h3, RdCs.kept hk r h4⟩
end
theorem RdC.below {B : Nat} {W W' : World} {t : Ty} {cs : List Value} {d : t.Den} (h : RdC B W t cs d) (hb : Below B W W') : RdC B W' t cs d := RdC.kept (fun b off hl => hb.cell (p := ⟨b, off, none⟩) hl) t h
end Gn
end Go.Proofs.YtghggkopbkhfpaaGreat
