import Derived.Deep.Slices
import Derived.Carry
import Derived.WideShapes
import Derived.RowKit
import Derived.Below
import Derived.Laws.Pointers
import Derived.WalkSmall
import Derived.WalkKit
import Derived.WalkLawsBesides
import Derived.BigQuiet
import Derived.Deep.QuietTactic
import Derived.Deep.LoopGhost
import Derived.Test.YtoldjbgojjafdaaGreatDoorPart1
/-
  Whatever plain data came in (numbers, bools, texts, slices and structs of these, nested), opened once for all: what it reads as, and where its cells lie.
-/
namespace Go.Proofs.YtoldjbgojjafdaaGreatDoor
open Go.RowKit Go.ChangeShapes Go.WideShapes Go.Deep
set_option linter.unusedVariables false
namespace Gn

mutual
inductive Ty where
  | int (k : IntKind)
  | bool
  | str
  | slice (e : Ty)
  | struct (fs : Tys)
inductive Tys where
  | nil
  | cons (t : Ty) (r : Tys)
end
mutual
/-- what a value of the type reads as -/
def Ty.Den : Ty → Type
  | .int _ => Int
  | .bool => Bool
  | .str => List UInt8
  | .slice e => List e.Den
  | .struct fs => fs.Den
def Tys.Den : Tys → Type
  | .nil => Unit
  | .cons t r => t.Den × r.Den
end
mutual
/-- how many cells -/
def Ty.size : Ty → Nat
  | .int _ => 1
  | .bool => 1
  | .str => 1
  | .slice _ => 1
  | .struct fs => fs.size
def Tys.size : Tys → Nat
  | .nil => 0
  | .cons t r => t.size + r.size
end
mutual
/-- the program's type ti is of this form -/
def Ty.isB (P : Program) : Ty → TypeId → Bool
  | .int k, ti => (match P.underlying ti with | some (.int k') => decide (k' = k) | _ => false)
  | .bool, ti => (match P.underlying ti with | some .bool => true | _ => false)
  | .str, ti => (match P.underlying ti with | some .string => true | _ => false)
  | .slice e, ti => (match P.underlying ti with | some (.slice te) => P.cellsOf te == e.size && decide (0 < e.size) && e.isB P te | _ => false)
  | .struct fs, ti => (match P.underlying ti with | some (.struct Fs) => P.cellsOf ti == fs.size && fs.areB P Fs.toList 0 | _ => false)
def Tys.areB (P : Program) : Tys → List Field → Nat → Bool
  | .nil, l, _ => l.isEmpty
  | .cons t r, l, o => (match l with | f :: l' => f.offset == o && P.cellsOf f.type == t.size && t.isB P f.type && r.areB P l' (o + t.size) | [] => false)
end
mutual
/-- how much it is -/
def Ty.bulk : (t : Ty) → t.Den → Nat
  | .int _, _ => 1
  | .bool, _ => 1
  | .str, (l : List UInt8) => l.length + 1
  | .slice e, (l : List e.Den) => (l.map fun d => e.bulk d).sum + 1
  | .struct fs, d => fs.bulk d + 1
def Tys.bulk : (fs : Tys) → fs.Den → Nat
  | .nil, _ => 0
  | .cons t r, d => t.bulk d.1 + r.bulk d.2
end
/-- the slice's own cells: where they lie -/
def RdL (B : Nat) (W : World) {α : Type} (sz : Nat) (rd : List Value → α → Prop) (cs : List Value) (l : List α) : Prop :=
  ∃ (a : Option Addr) (cap b off : Nat), cs = [.slice a l.length cap] ∧ l.length ≤ cap ∧ cap ≤ maxLen ∧ (0 < l.length → a = some ⟨b, off, none⟩ ∧ b < B) ∧
    ∀ j (h : j < l.length), ∃ cs', cs'.length = sz ∧ (∀ k, k < sz → W.cell? ⟨b, off + j * sz + k, none⟩ = cs'[k]?) ∧ rd cs' l[j]
mutual
/-- cells read as a datum -/
def RdC (B : Nat) (W : World) : (t : Ty) → List Value → t.Den → Prop
  | .int k, cs, (a : Int) => cs = [.int k a] ∧ (Lit.int k a).wf = true
  | .bool, cs, (x : Bool) => cs = [.bool x]
  | .str, cs, (l : List UInt8) => cs = [.string ⟨l.toArray⟩] ∧ l.length ≤ maxLen
  | .slice e, cs, (l : List e.Den) => RdL B W e.size (RdC B W e) cs l
  | .struct fs, cs, d => RdCs B W fs cs d
def RdCs (B : Nat) (W : World) : (fs : Tys) → List Value → fs.Den → Prop
  | .nil, cs, _ => cs = []
  | .cons t r, cs, d => ∃ c1 c2, cs = c1 ++ c2 ∧ c1.length = t.size ∧ RdC B W t c1 d.1 ∧ RdCs B W r c2 d.2
end
/-- the value of these cells -/
def Ty.pack : Ty → List Value → Value
  | .struct _, cs => .agg cs.toArray
  | _, cs => cs.headD undef

theorem list_of {α : Type} {Q : Nat → α → Prop} : ∀ {len : Nat}, (∀ i, i < len → ∃ d, Q i d) → ∃ l : List α, l.length = len ∧ ∀ i (h : i < l.length), Q i l[i]
  | 0, _ => ⟨[], rfl, fun i h => by simp at h⟩
  | len + 1, hf => by
    obtain ⟨l, hl, hq⟩ := list_of (len := len) (fun i hi => hf i (by omega))
    obtain ⟨d, hd⟩ := hf len (by omega)
    refine ⟨l ++ [d], by simp [hl], fun i hi => ?_⟩
    by_cases h : i < l.length
    · rw [List.getElem_append_left h]; exact hq i h
    · obtain rfl : i = l.length := by simp at hi; omega
      rw [List.getElem_append_right (Nat.le_refl _)]
      simp only [Nat.sub_self, List.getElem_cons_zero]
      rw [hl]; exact hd
theorem sum_le {α : Type} (f : α → Nat) (g : Nat → Nat) : ∀ (len : Nat) (l : List α), l.length = len → (∀ i (h : i < l.length), f l[i] ≤ g i) → (l.map f).sum ≤ ((List.range len).map g).sum
  | 0, l, hl, _ => by have := List.eq_nil_of_length_eq_zero hl; subst this; simp
  | len + 1, l, hl, h => by
    have hlt : len < l.length := by omega
    have e : l = l.take len ++ [l[len]] := by rw [← List.take_succ_eq_append_getElem hlt, List.take_of_length_le (by omega)]
    have ih := sum_le f g len (l.take len) (by simp; omega) (fun i hi => by
      have hi' : i < l.length := by simp at hi; omega
      have := h i hi'
      rw [List.getElem_take]; exact this)
    have hlast := h len hlt
    rw [List.range_succ, List.map_append, List.sum_append]
    have e2 : (l.map f).sum = ((l.take len).map f).sum + f l[len] := by
      conv => lhs; rw [e]
      rw [List.map_append, List.sum_append]; simp
    rw [e2]
    simp only [List.map_cons, List.map_nil, List.sum_cons, List.sum_nil]; omega
theorem spotless {W : World} {a : Addr} {v : Value} (h : W.cell? (a.add 0) = some v) : a.spot = none := by
  cases hs : a.spot with
  | none => rfl
  | some sp =>
    have : W.cell? (a.add 0) = none := by
      unfold World.cell?
      have : (a.add 0).spot.isSome = true := by unfold Addr.add; split <;> simp_all
      split <;> simp_all
    rw [this] at h; cases h
theorem add_of (b off k : Nat) : (⟨b, off, none⟩ : Addr).add k = ⟨b, off + k, none⟩ := by unfold Addr.add; split <;> simp_all

section
variable {H : Type} {enc : TypeId × Value → H} {P : Program} {W : World}
mutual
/-- WHATEVER CAME IN READS AS A DATUM OF ITS TYPE. -/
theorem open_ty : ∀ (t : Ty) {ti : TypeId}, t.isB P ti = true → ∀ {fuel : Nat} {cs : List Value} {x : DataW H × List MemPlace}, DataW.trod enc P W 0 (fun _ => true) true fuel ti cs = some x →
    ∃ d : t.Den, RdC W.heap.size W t cs d ∧ t.bulk d ≤ Rows.uptoBulk x.1
  | .int k, ti, hi, fuel, cs, x, h => by
    unfold Ty.isB at hi
    split at hi <;> try cases hi
    rename_i k' hk
    obtain rfl : k' = k := by simpa using hi
    obtain ⟨a, rfl, rfl, hw⟩ := DataW.trod_int hk h
    exact ⟨a, ⟨rfl, hw⟩, Nat.le_refl _⟩
  | .bool, ti, hi, fuel, cs, x, h => by
    unfold Ty.isB at hi
    split at hi <;> try cases hi
    rename_i hk
    obtain ⟨a, rfl, rfl⟩ := DataW.trod_bool hk h
    exact ⟨a, rfl, Nat.le_refl _⟩
  | .str, ti, hi, fuel, cs, x, h => by
    unfold Ty.isB at hi
    split at hi <;> try cases hi
    rename_i hk
    obtain ⟨s, rfl, rfl, hw⟩ := DataW.trod_string hk h
    exact ⟨s.data.toList, ⟨rfl, by simpa using hw⟩, Nat.le_refl _⟩
  | .slice e, ti, hi, fuel, cs, x, h => by
    unfold Ty.isB at hi
    split at hi <;> try cases hi
    rename_i te hk
    simp only [Bool.and_eq_true, beq_iff_eq, decide_eq_true_eq] at hi
    obtain ⟨⟨hsz, hpos⟩, he⟩ := hi
    rcases open_slice hk h with ⟨rfl, rfl⟩ | ⟨a, len, cap, m, n, D, Pl, rfl, _, hl, hm, hmm, rfl, hel⟩
    · exact ⟨([] : List e.Den), ⟨none, 0, 0, 0, rfl, Nat.le_refl _, Nat.zero_le _, fun h => by simp at h, fun j h => by simp at h⟩, by simp [Ty.bulk, Rows.uptoBulk]⟩
    · have hlm : len ≤ m := by rw [hmm]; split <;> omega
      rw [hsz] at hel
      obtain ⟨l, hll, hq⟩ := list_of (len := len) (Q := fun i d => (∃ cs', cs'.length = e.size ∧ (∀ k, k < e.size → W.cell? (a.add (i * e.size + k)) = cs'[k]?) ∧ RdC W.heap.size W e cs' d) ∧ e.bulk d ≤ Rows.uptoBulk (D i)) (fun i hi' => by
        obtain ⟨cs', h1, h2⟩ := hel i (by omega)
        obtain ⟨d, hd, hb⟩ := open_ty e he h2
        obtain ⟨_, hlen, hcell⟩ := World.cells?_some h1
        refine ⟨d, ⟨cs', hlen, fun k hk' => ?_, hd⟩, hb⟩
        have := hcell k (by omega)
        rw [Go.Deep.add_add] at this
        exact this)
      have hsum := sum_le (fun d => e.bulk d) (fun i => Rows.uptoBulk (D i)) len l hll (fun i h => (hq i h).2)
      have hbk : Ty.bulk (.slice e) l ≤ Rows.uptoBulk (DataW.slice ((List.range len).map D) ((List.range (m - len)).map fun j => D (len + j))) := by
        simp only [Ty.bulk, Rows.uptoBulk, Bk.all_range]; omega
      subst hll
      by_cases h0 : 0 < l.length
      · obtain ⟨⟨cs0, hl0, hc0, _⟩, _⟩ := hq 0 h0
        have hc := hc0 0 hpos
        rw [List.getElem?_eq_getElem (by omega)] at hc
        simp only [Nat.zero_mul, Nat.add_zero] at hc
        have hsp := spotless hc
        obtain ⟨b, off, sp⟩ := a
        simp only at hsp
        subst hsp
        refine ⟨l, ⟨some ⟨b, off, none⟩, cap, b, off, rfl, hl, hm, fun _ => ⟨rfl, ?_⟩, fun j hj => ?_⟩, hbk⟩
        · have := World.block_lt_of_cell? W _ hc
          rw [add_of] at this; exact this
        · obtain ⟨cs', g1, g2, g3⟩ := (hq j hj).1
          refine ⟨cs', g1, fun k hk' => ?_, g3⟩
          have := g2 k hk'
          rw [add_of] at this
          rw [Nat.add_assoc]; exact this
      · exact ⟨l, ⟨some a, cap, 0, 0, rfl, hl, hm, fun h => absurd h h0, fun j hj => absurd hj (by omega)⟩, hbk⟩
  | .struct fs, ti, hi, fuel, cs, x, h => by
    unfold Ty.isB at hi
    split at hi <;> try cases hi
    rename_i Fs hk
    simp only [Bool.and_eq_true, beq_iff_eq] at hi
    obtain ⟨hsz, hfs⟩ := hi
    obtain ⟨xs, n, _, rfl, hlen, hxl, hg⟩ := DataW.trod_struct hk h
    obtain ⟨d, hd, hb⟩ := open_tys fs (o := 0) (l := Fs.toList) (cs := cs) (xs := xs) (n := n) hfs (by rw [hlen, hsz, Nat.zero_add]) (by simpa using hxl) (fun i f hf => hg i f (by simpa using hf))
    refine ⟨d, by simpa [RdC] using hd, ?_⟩
    simp only [Ty.bulk, Rows.uptoBulk]
    omega
theorem open_tys : ∀ (fs : Tys) {o : Nat} {l : List Field} {cs : List Value} {xs : List (DataW H × List MemPlace)} {n : Nat}, fs.areB P l o = true → cs.length = o + fs.size → xs.length = l.length →
    (∀ (i : Nat) (f : Field), l[i]? = some f → DataW.trod enc P W 0 (fun _ => true) true n f.type ((cs.drop f.offset).take (P.cellsOf f.type)) = xs[i]?) →
    ∃ d : fs.Den, RdCs W.heap.size W fs (cs.drop o) d ∧ fs.bulk d ≤ Rows.uptoBulkAll (xs.map (·.1))
  | .nil, o, l, cs, xs, n, ha, hlen, hxl, hg => by
    refine ⟨(), ?_, Nat.zero_le _⟩
    simp only [RdCs]
    exact List.drop_eq_nil_of_le (by simp only [Tys.size] at hlen; omega)
  | .cons t r, o, l, cs, xs, n, ha, hlen, hxl, hg => by
    unfold Tys.areB at ha
    match l, xs, hxl with
    | [], _, _ => simp at ha
    | f :: l', [], hxl => simp at hxl
    | f :: l', y :: ys, hxl =>
      simp only [Bool.and_eq_true, beq_iff_eq] at ha
      obtain ⟨⟨⟨ho, hsz⟩, hty⟩, hr⟩ := ha
      simp only [Tys.size] at hlen
      have h0 := hg 0 f rfl
      rw [ho, hsz] at h0
      obtain ⟨d1, hd1, hb1⟩ := open_ty t hty h0
      obtain ⟨d2, hd2, hb2⟩ := open_tys r (o := o + t.size) (l := l') (cs := cs) (xs := ys) (n := n) hr (by omega) (by simpa using hxl) (fun i f' hf' => by
        have := hg (i + 1) f' (by simpa using hf')
        simpa using this)
      refine ⟨(d1, d2), ?_, ?_⟩
      · refine ⟨(cs.drop o).take t.size, (cs.drop o).drop t.size, (List.take_append_drop _ _).symm, ?_, hd1, ?_⟩
        · rw [List.length_take, List.length_drop]; omega
        · rw [List.drop_drop]; exact hd2
      · simp only [Tys.bulk, List.map_cons, Rows.uptoBulkAll]; omega
end

/-- .. AND SO DOES A PARAMETER. -/
theorem open_val (t : Ty) {ti : TypeId} {B base : Nat} {v : Value} {d : DataW H} {p : List MemPlace} (hi : t.isB P ti = true) (hv : Value.okWide P W .any base ti v)
    (h : DataW.Trod enc P W 0 (fun _ => true) true ti v d p) (hB : Rows.uptoBulk d ≤ B) : ∃ (cs : List Value) (x : t.Den), v = t.pack cs ∧ RdC W.heap.size W t cs x ∧ t.bulk x ≤ B := by
  obtain ⟨fuel, hf⟩ := h
  obtain ⟨x, hx, hb⟩ := open_ty t hi hf
  refine ⟨v.cells.toList, x, ?_, hx, Nat.le_trans hb hB⟩
  cases t with
  | int k =>
    unfold Ty.isB at hi
    split at hi <;> try cases hi
    rename_i k' hk
    obtain ⟨n, rfl⟩ := okWide_int hk hv
    rfl
  | bool =>
    unfold Ty.isB at hi
    split at hi <;> try cases hi
    rename_i hk
    obtain ⟨n, rfl⟩ := okWide_bool hk hv
    rfl
  | str =>
    unfold Ty.isB at hi
    split at hi <;> try cases hi
    rename_i hk
    obtain ⟨n, rfl⟩ := okWide_string hk hv
    rfl
  | slice e =>
    unfold Ty.isB at hi
    split at hi <;> try cases hi
    rename_i te hk
    obtain ⟨a, len, cap, rfl⟩ := okWide_slice hk hv
    rfl
  | struct fs =>
    unfold Ty.isB at hi
    split at hi <;> try cases hi
    rename_i Fs hk
    obtain ⟨cs, rfl, _⟩ := okWide_struct hk hv
    simp [Ty.pack, Value.cells]
end

/-! ### it stays -/
mutual
theorem RdC.kept {B : Nat} {W W' : World} (hk : ∀ b off, b < B → W'.cell? ⟨b, off, none⟩ = W.cell? ⟨b, off, none⟩) : ∀ (t : Ty) {cs : List Value} {d : t.Den}, RdC B W t cs d → RdC B W' t cs d
  | .int k, cs, d, h => h
  | .bool, cs, d, h => h
  | .str, cs, d, h => h
  | .slice e, cs, d, h => by
    obtain ⟨a, cap, b, off, h1, h2, h3, h4, h5⟩ := h
    refine ⟨a, cap, b, off, h1, h2, h3, h4, fun j hj => ?_⟩
    obtain ⟨cs', g1, g2, g3⟩ := h5 j hj
    exact ⟨cs', g1, fun k hk' => (hk b _ (h4 (by omega)).2).trans (g2 k hk'), RdC.kept hk e g3⟩
  | .struct fs, cs, d, h => RdCs.kept hk fs h
theorem RdCs.kept {B : Nat} {W W' : World} (hk : ∀ b off, b < B → W'.cell? ⟨b, off, none⟩ = W.cell? ⟨b, off, none⟩) : ∀ (fs : Tys) {cs : List Value} {d : fs.Den}, RdCs B W fs cs d → RdCs B W' fs cs d
  | .nil, cs, d, h => h
  | .cons t r, cs, d, h => by
    obtain ⟨c1, c2, h1, h2, h3, h4⟩ := h
    exact ⟨c1, c2, h1, h2, RdC.kept hk t h3, RdCs.kept hk r h4⟩
end
theorem RdC.below {B : Nat} {W W' : World} {t : Ty} {cs : List Value} {d : t.Den} (h : RdC B W t cs d) (hb : Below B W W') : RdC B W' t cs d := RdC.kept (fun b off hl => hb.cell (p := ⟨b, off, none⟩) hl) t h
end Gn
end Go.Proofs.YtoldjbgojjafdaaGreatDoor

/-
  Plain mathematics of chapter 4 (files): roots, which may be, and as bytes.
-/
namespace Go.Proofs.YtoldjbgojjafdaaGreatDoor
namespace Fi
open Go.RowKit
open Op (bytesLess)

abbrev Dat := List UInt8
structure File where
  name : Dat
  size : Int
  blocks : List Int
structure Root where
  gen : Nat
  files : List File

/-- P4.1's Words: a file's name -/
def nameB (s : Dat) : Bool := decide (1 ≤ s.length) && decide (s.length ≤ 32)
def takes (n : Int) : Int := n / 256 + if 0 < n % 256 then 1 else 0
/-- a name behind another one -/
def prevB : Option Dat → Dat → Bool
  | some p, n => bytesLess p n
  | none, _ => true
/-- a file's head, behind one of that name -/
def headB (prev : Option Dat) (f : File) : Bool :=
  nameB f.name && prevB prev f.name && decide (0 ≤ f.size) && decide ((f.blocks.length : Int) = takes f.size)
/-- the blocks of a list are new ones, of so many; what is taken behind them -/
def blocksGo (n : Int) : List Int → List Int → Option (List Int)
  | [], t => some t
  | b :: l, t => if 32 ≤ b ∧ b < n ∧ b ∉ t then blocksGo n l (b :: t) else none
def mayGo (n : Int) : List File → Option Dat → List Int → Bool
  | [], _, _ => true
  | f :: r, prev, t => headB prev f && (match blocksGo n f.blocks t with | some t' => mayGo n r (some f.name) t' | none => false)
/-- P4.1's Words: may a root be, on so many blocks? -/
def may (r : Root) (n : Int) : Bool := decide (1 ≤ r.gen) && decide (r.gen ≤ 4611686018427387904) && decide (r.files.length ≤ 64) && mayGo n r.files none []

/-- how many follow one another by 1 -/
def runLen (x : Int) : List Int → Nat
  | [] => 0
  | y :: r => if y = x + 1 then runLen y r + 1 else 0
theorem runLen_le (l : List Int) : ∀ x, runLen x l ≤ l.length := by
  induction l with
  | nil => intro x; exact Nat.le_refl _
  | cons y r ih => intro x; unfold runLen; split; exact Nat.succ_le_succ (ih y); exact Nat.zero_le _
def runs : List Int → List (Int × Nat)
  | [] => []
  | x :: r => (x, runLen x r + 1) :: runs (r.drop (runLen x r))
termination_by l => l.length
decreasing_by simp; omega
def runB (p : Int × Nat) : Dat := Cd.putU p.1.toNat ++ Cd.putU p.2
def runBytes (l : List Int) : Dat := Cd.putU (runs l).length ++ (runs l).flatMap runB
def fileBytes (f : File) : Dat := Cd.putT f.name ++ Cd.putU f.size.toNat ++ runBytes f.blocks
def rootLoad (r : Root) : Dat := Cd.putU r.gen ++ Cd.putU r.files.length ++ r.files.flatMap fileBytes
/-- P4.1: EncodeRoot -/
def encode (r : Root) (n : Int) : Dat × Nat :=
  if may r (min n 16384) then (if (Fr.put 1 (rootLoad r)).2 = 0 ∧ (Fr.put 1 (rootLoad r)).1.length ≤ 3840 then ((Fr.put 1 (rootLoad r)).1, 0) else ([], 5)) else ([], 1)

theorem runs_cons (x : Int) (r : List Int) : runs (x :: r) = (x, runLen x r + 1) :: runs (r.drop (runLen x r)) := by rw [runs]
theorem runs_len (l : List Int) : (runs l).length ≤ l.length := by
  induction h : l.length using Nat.strongRecOn generalizing l with
  | _ n ih =>
    match l, h with
    | [], h => rw [runs]; exact Nat.zero_le _
    | x :: r, h =>
      rw [runs_cons, List.length_cons]
      have := ih (r.drop (runLen x r)).length (by simp at h ⊢; omega) _ rfl
      simp at h this ⊢; omega
end Fi
end Go.Proofs.YtoldjbgojjafdaaGreatDoor

/-
  Plain mathematics of chapter 4 (files): runs, told again as the blocks that they are of.
-/
namespace Go.Proofs.YtoldjbgojjafdaaGreatDoor
namespace Fi

/-- the blocks of a run -/
def runOf (p : Int × Nat) : List Int := (List.range p.2).map fun (j : Nat) => p.1 + (j : Int)
theorem runOf_succ (x : Int) (k : Nat) : runOf (x, k + 1) = x :: runOf (x + 1, k) := by
  unfold runOf
  rw [List.range_succ_eq_map, List.map_cons, List.map_map]
  congr 1
  · simp
  · apply List.map_congr_left; intro j _; simp; omega
theorem runLen_take (l : List Int) : ∀ x, l.take (runLen x l) = runOf (x + 1, runLen x l) := by
  induction l with
  | nil => intro x; simp [runLen, runOf]
  | cons y r ih =>
    intro x
    unfold runLen
    split
    · rename_i h
      rw [List.take_succ_cons, ih y, runOf_succ, h]
    · simp [runOf]
theorem runs_expand (l : List Int) : (runs l).flatMap runOf = l := by
  induction h : l.length using Nat.strongRecOn generalizing l with
  | _ n ih =>
    match l, h with
    | [], _ => rw [runs]; rfl
    | x :: r, h =>
      rw [runs_cons, List.flatMap_cons, runOf_succ, ih (r.drop (runLen x r)).length (by simp at h ⊢; omega) _ rfl, ← runLen_take, List.cons_append, List.take_append_drop]
theorem blocksGo_in {n : Int} : ∀ {l t t' : List Int}, blocksGo n l t = some t' → ∀ b ∈ l, 32 ≤ b ∧ b < n
  | [], _, _, _ => fun b hb => by cases hb
  | x :: l, t, t', h => by
    unfold blocksGo at h
    split at h
    · rename_i hx
      intro b hb
      rcases List.mem_cons.1 hb with rfl | hb
      · exact ⟨hx.1, hx.2.1⟩
      · exact blocksGo_in h b hb
    · cases h
theorem mayGo_in {n : Int} : ∀ {L : List File} {p : Option Dat} {t : List Int}, mayGo n L p t = true → ∀ f ∈ L, (∀ b ∈ f.blocks, 32 ≤ b ∧ b < n) ∧ 0 ≤ f.size ∧ f.name.length ≤ 32
  | [], _, _, _ => fun f hf => by cases hf
  | x :: L, p, t, h => by
    unfold mayGo at h
    rw [Bool.and_eq_true] at h
    obtain ⟨hh, hr⟩ := h
    cases hb : blocksGo n x.blocks t with
    | none => rw [hb] at hr; cases hr
    | some t' =>
      rw [hb] at hr
      intro f hf
      rcases List.mem_cons.1 hf with rfl | hf
      · refine ⟨blocksGo_in hb, ?_, ?_⟩
        · unfold headB at hh; simp at hh; omega
        · unfold headB nameB at hh; simp at hh; omega
      · exact mayGo_in hr f hf
theorem may_in {r : Root} {n : Int} (h : may r n = true) : 1 ≤ r.gen ∧ r.gen ≤ 4611686018427387904 ∧ r.files.length ≤ 64 ∧ ∀ f ∈ r.files, (∀ b ∈ f.blocks, 32 ≤ b ∧ b < n) ∧ 0 ≤ f.size ∧ f.name.length ≤ 32 := by
  unfold may at h
  simp only [Bool.and_eq_true, decide_eq_true_eq] at h
  exact ⟨h.1.1.1, h.1.1.2, h.1.2, mayGo_in h.2⟩

theorem nodup_len : ∀ (N : Nat) (l : List Nat), l.Nodup → (∀ b ∈ l, b < N) → l.length ≤ N
  | 0, [], _, _ => Nat.le_refl _
  | 0, b :: _, _, h => by have := h b (List.mem_cons_self ..); omega
  | N + 1, l, hn, h => by
    by_cases hm : N ∈ l
    · have := nodup_len N (l.erase N) (hn.erase N) (fun b hb => by
        have h1 := (hn.mem_erase_iff).1 hb
        have := h b h1.2
        have := h1.1
        omega)
      rw [List.length_erase_of_mem hm] at this
      omega
    · have := nodup_len N l hn (fun b hb => by
        have := h b hb
        have : b ≠ N := fun e => hm (e ▸ hb)
        omega)
      omega
theorem blocksGo_nodup {n : Int} : ∀ {l t t' : List Int}, blocksGo n l t = some t' → t.Nodup → (∀ b ∈ t, 32 ≤ b ∧ b < n) → t'.Nodup ∧ t'.length = t.length + l.length ∧ ∀ b ∈ t', 32 ≤ b ∧ b < n
  | [], t, t', h, hn, hb => by
    simp only [blocksGo, Option.some.injEq] at h
    subst h
    exact ⟨hn, rfl, hb⟩
  | x :: l, t, t', h, hn, hb => by
    unfold blocksGo at h
    split at h
    · rename_i hx
      obtain ⟨h1, h2, h3⟩ := blocksGo_nodup h (List.nodup_cons.2 ⟨hx.2.2, hn⟩) (fun b hb' => by
        rcases List.mem_cons.1 hb' with rfl | hb'
        · exact ⟨hx.1, hx.2.1⟩
        · exact hb b hb')
      exact ⟨h1, by rw [h2, List.length_cons, List.length_cons]; omega, h3⟩
    · cases h
theorem ints_len {n : Int} (hn : n ≤ 16384) (t : List Int) (hd : t.Nodup) (hb : ∀ b ∈ t, 32 ≤ b ∧ b < n) : t.length ≤ 16384 := by
  have h1 : (t.map Int.toNat).Nodup := by
    induction t with
    | nil => simp
    | cons x r ih =>
      have hx := List.nodup_cons.1 hd
      rw [List.map_cons, List.nodup_cons]
      refine ⟨fun hm => ?_, ih hx.2 (fun b h => hb b (List.mem_cons_of_mem _ h))⟩
      obtain ⟨y, hy, e⟩ := List.mem_map.1 hm
      have a1 := hb x (List.mem_cons_self ..)
      have a2 := hb y (List.mem_cons_of_mem _ hy)
      have : y = x := by omega
      exact hx.1 (this ▸ hy)
  have := nodup_len 16384 _ h1 (fun b h => by
    obtain ⟨y, hy, rfl⟩ := List.mem_map.1 h
    have := hb y hy
    omega)
  simpa using this
theorem mayGo_len {n : Int} (hn : n ≤ 16384) : ∀ {L : List File} {p : Option Dat} {t : List Int}, mayGo n L p t = true → t.Nodup → (∀ b ∈ t, 32 ≤ b ∧ b < n) → ∀ f ∈ L, f.blocks.length ≤ 16384 ∧ (f.blocks.length : Int) = takes f.size
  | [], _, _, _, _, _ => fun f hf => by cases hf
  | x :: L, p, t, h, hd, hb => by
    unfold mayGo at h
    rw [Bool.and_eq_true] at h
    obtain ⟨hh, hr⟩ := h
    cases hbg : blocksGo n x.blocks t with
    | none => rw [hbg] at hr; cases hr
    | some t' =>
      rw [hbg] at hr
      obtain ⟨h1, h2, h3⟩ := blocksGo_nodup hbg hd hb
      intro f hf
      rcases List.mem_cons.1 hf with rfl | hf
      · have := ints_len hn t' h1 h3
        unfold headB at hh
        simp at hh
        exact ⟨by omega, hh.2⟩
      · exact mayGo_len hn hr h1 h3 f hf
end Fi
end Go.Proofs.YtoldjbgojjafdaaGreatDoor

/-
  Plain mathematics of chapter 3 (block): a disk as a state, and what each call makes of it.
-/
namespace Go.Proofs.YtoldjbgojjafdaaGreatDoor
namespace Bl
open Go.RowKit

abbrev Dat := List UInt8
structure St where
  safe : List Dat
  wait : List (Nat × Dat)
  down : Bool
  armed : Nat
  acts : Nat
  epochs : Nat

def noughts : Dat := List.replicate 256 0
def new (n : Nat) : St := ⟨List.replicate n noughts, [], false, 0, 0, 0⟩
/-- the last pending write of a block -/
def lastW (wait : List (Nat × Dat)) (k : Nat) : Option Dat := (wait.reverse.find? fun x => x.1 == k).map (·.2)
def readOf (σ : St) (k : Nat) : Dat := (lastW σ.wait k).getD (σ.safe.getD k [])
def inR (σ : St) (i : Int) : Prop := 0 ≤ i ∧ i < σ.safe.length
instance (σ : St) (i : Int) : Decidable (inR σ i) := by unfold inR; infer_instance
def read (σ : St) (i : Int) : Dat × Nat := if σ.down then ([], 4) else if inR σ i then (readOf σ i.toNat, 0) else ([], 1)
/-- the power of an act: the state behind it, and whether it goes -/
def act (σ : St) : St × Bool :=
  if σ.armed = 0 then ({ σ with acts := σ.acts + 1 }, false)
  else if σ.armed = 1 then ({ σ with acts := σ.acts + 1, armed := 0, down := true }, true)
  else ({ σ with acts := σ.acts + 1, armed := σ.armed - 1 }, false)
def write (σ : St) (i : Int) (s : Dat) : St × Nat :=
  if σ.down then (σ, 4) else if inR σ i ∧ s.length = 256 then
    ((act { σ with wait := σ.wait ++ [(i.toNat, s)] }).1, if (act σ).2 then 4 else 0)
  else (σ, 1)
def setAll (safe : List Dat) (wait : List (Nat × Dat)) : List Dat := wait.foldl (fun l x => l.set x.1 x.2) safe
def sync (σ : St) : St × Nat :=
  if σ.down then (σ, 4) else if (act σ).2 then ((act σ).1, 4)
  else ({ (act σ).1 with safe := setAll σ.safe σ.wait, wait := [] }, 0)
def arm (σ : St) (n : Int) : St := { σ with armed := n.toNat }
def clip (n : Int) : Nat := min n.toNat 256
/-- a pending write at a loss of power -/
def keepOne (keep : List Bool) (torn : Int) (n : Nat) (l : List Dat) (k : Nat) (x : Nat × Dat) : List Dat :=
  if (k : Int) = torn then l.set x.1 (x.2.take n ++ (l.getD x.1 []).drop n)
  else if keep.getD k false then l.set x.1 x.2 else l
def keepGo (keep : List Bool) (torn : Int) (n : Nat) : Nat → List (Nat × Dat) → List Dat → List Dat
  | _, [], l => l
  | k, x :: r, l => keepGo keep torn n (k + 1) r (keepOne keep torn n l k x)
def crash (σ : St) (keep : List Bool) (torn bytes : Int) : St :=
  { σ with safe := keepGo keep torn (clip bytes) 0 σ.wait σ.safe, wait := [], down := false, armed := 0, epochs := σ.epochs + 1 }
/-- what every state keeps -/
structure Ok (σ : St) : Prop where
  blocks : σ.safe.length ≤ 16384
  full : ∀ x ∈ σ.safe, x.length = 256
  inW : ∀ x ∈ σ.wait, x.1 < σ.safe.length ∧ x.2.length = 256
  armed : σ.armed ≤ 9223372036854775807

theorem act_safe (σ : St) : (act σ).1.safe = σ.safe ∧ (act σ).1.wait = σ.wait ∧ (act σ).1.acts = σ.acts + 1 ∧ (act σ).1.epochs = σ.epochs ∧ (act σ).1.armed ≤ σ.armed := by
  unfold act; split
  · exact ⟨rfl, rfl, rfl, rfl, Nat.le_refl _⟩
  · split
    · exact ⟨rfl, rfl, rfl, rfl, Nat.zero_le _⟩
    · exact ⟨rfl, rfl, rfl, rfl, Nat.sub_le _ _⟩
theorem Ok.act {σ : St} (h : Ok σ) : Ok (act σ).1 := by
  obtain ⟨e1, e2, _, _, e5⟩ := act_safe σ
  exact ⟨by rw [e1]; exact h.blocks, by rw [e1]; exact h.full, by rw [e1, e2]; exact h.inW, Nat.le_trans e5 h.armed⟩
theorem new_ok {n : Nat} (h : n ≤ 16384) : Ok (new n) := ⟨by simpa [new] using h, fun x hx => by have := List.eq_of_mem_replicate hx; rw [this]; exact List.length_replicate, fun x hx => by simp [new] at hx, by simp [new]⟩
theorem Ok.write {σ : St} (h : Ok σ) (i : Int) (s : Dat) : Ok (write σ i s).1 := by
  unfold Bl.write
  split
  · exact h
  · split
    · rename_i h2
      obtain ⟨⟨h0, h1⟩, hs⟩ := h2
      refine Ok.act ⟨h.blocks, h.full, fun x hx => ?_, h.armed⟩
      rcases List.mem_append.1 hx with hx | hx
      · exact h.inW x hx
      · simp at hx; subst hx; exact ⟨by simp only; omega, hs⟩
    · exact h
theorem setAll_len (wait : List (Nat × Dat)) : ∀ safe : List Dat, (setAll safe wait).length = safe.length := by
  induction wait with
  | nil => intro safe; rfl
  | cons x r ih => intro safe; show (setAll (safe.set x.1 x.2) r).length = _; rw [ih]; simp
theorem setAll_full (wait : List (Nat × Dat)) : ∀ safe : List Dat, (∀ x ∈ safe, x.length = 256) → (∀ x ∈ wait, x.2.length = 256) → ∀ x ∈ setAll safe wait, x.length = 256 := by
  induction wait with
  | nil => intro safe h _; exact h
  | cons y r ih =>
    intro safe h hw
    refine ih (safe.set y.1 y.2) (fun x hx => ?_) (fun x hx => hw x (List.mem_cons_of_mem _ hx))
    rcases List.mem_or_eq_of_mem_set hx with hx | hx
    · exact h x hx
    · rw [hx]; exact hw y (List.mem_cons_self ..)
theorem Ok.sync {σ : St} (h : Ok σ) : Ok (sync σ).1 := by
  unfold Bl.sync
  split
  · exact h
  · split
    · exact h.act
    · exact ⟨by simp only [setAll_len]; exact h.blocks, setAll_full _ _ h.full (fun x hx => (h.inW x hx).2), fun x hx => by simp at hx, h.act.armed⟩
theorem Ok.arm {σ : St} (h : Ok σ) {n : Int} (hn : n ≤ 9223372036854775807) : Ok (arm σ n) := ⟨h.blocks, h.full, h.inW, by simp only [Bl.arm]; omega⟩
theorem keepOne_len (keep : List Bool) (torn : Int) (n : Nat) (l : List Dat) (k : Nat) (x : Nat × Dat) : (keepOne keep torn n l k x).length = l.length := by
  unfold keepOne; split
  · simp
  · split <;> simp
theorem getD_len {l : List Dat} (h : ∀ x ∈ l, x.length = 256) {i : Nat} (hi : i < l.length) : (l.getD i []).length = 256 := by
  rw [List.getD_eq_getElem?_getD, List.getElem?_eq_getElem hi]; exact h _ (List.getElem_mem hi)
theorem keepOne_full {keep : List Bool} {torn : Int} {n : Nat} {l : List Dat} {k : Nat} {x : Nat × Dat} (h : ∀ x ∈ l, x.length = 256) (hx : x.1 < l.length ∧ x.2.length = 256) (hn : n ≤ 256) : ∀ y ∈ keepOne keep torn n l k x, y.length = 256 := by
  unfold keepOne; split
  · intro y hy
    rcases List.mem_or_eq_of_mem_set hy with hy | hy
    · exact h y hy
    · have := getD_len h hx.1
      rw [hy, List.length_append, List.length_take, List.length_drop]; omega
  · split
    · intro y hy
      rcases List.mem_or_eq_of_mem_set hy with hy | hy
      · exact h y hy
      · rw [hy]; exact hx.2
    · exact h
theorem keepGo_ok {keep : List Bool} {torn : Int} {n : Nat} (hn : n ≤ 256) : ∀ (wait : List (Nat × Dat)) (k : Nat) (l : List Dat), (∀ x ∈ l, x.length = 256) → (∀ x ∈ wait, x.1 < l.length ∧ x.2.length = 256) →
    (keepGo keep torn n k wait l).length = l.length ∧ ∀ x ∈ keepGo keep torn n k wait l, x.length = 256
  | [], _, l, h, _ => ⟨rfl, h⟩
  | x :: r, k, l, h, hw => by
    have hl := keepOne_len keep torn n l k x
    have := keepGo_ok (keep := keep) (torn := torn) hn r (k + 1) (keepOne keep torn n l k x) (keepOne_full h (hw x (List.mem_cons_self ..)) hn) (fun y hy => by rw [hl]; exact hw y (List.mem_cons_of_mem _ hy))
    exact ⟨this.1.trans hl, this.2⟩
theorem clip_le (n : Int) : clip n ≤ 256 := Nat.min_le_right _ _
theorem Ok.crash {σ : St} (h : Ok σ) (keep : List Bool) (torn bytes : Int) : Ok (crash σ keep torn bytes) := by
  have := keepGo_ok (keep := keep) (torn := torn) (clip_le bytes) σ.wait 0 σ.safe h.full h.inW
  exact ⟨by simp only [Bl.crash, this.1]; exact h.blocks, this.2, fun x hx => by simp [Bl.crash] at hx, by simp [Bl.crash]⟩
end Bl
end Go.Proofs.YtoldjbgojjafdaaGreatDoor

/-
  Plain mathematics of chapter 4 (files): a file system over a disk as a state, and what each call makes of it. No program is named here.
-/
namespace Go.Proofs.YtoldjbgojjafdaaGreatDoor
namespace Fi
open Op (bytesLess)

/-- the root with whose bytes a text begins -/
def IsRoot (l : Dat) (n : Int) (r : Root) : Prop := (encode r n).2 = 0 ∧ (encode r n).1 <+: l
open Classical in
noncomputable def decode (l : Dat) (n : Int) : Option Root := if h : ∃ r, IsRoot l n r then some h.choose else none

/-- a file at hand: its bytes; how many of them are old, and in which blocks these lie -/
structure HF where
  name : Dat
  data : Dat
  old : Nat
  blocks : List Int
structure FS where
  epoch : Nat
  safe : Root
  hand : List HF
  changed : Bool

def dead (σ : Bl.St) (φ : FS) : Bool := σ.down || (σ.epochs != φ.epoch)
def head (g : Nat) : Dat := Cd.big g ++ List.replicate 240 0 ++ Cd.big g
def blk (σ : Bl.St) (b : Int) : Dat := (Bl.read σ b).1
def load (σ : Bl.St) (f : File) : Dat := (f.blocks.flatMap (blk σ)).take f.size.toNat
def handOf (σ : Bl.St) (f : File) : HF := ⟨f.name, load σ f, f.size.toNat, f.blocks⟩
/-- P4.5 -/
def revert (σ : Bl.St) (φ : FS) : FS := if dead σ φ then φ else { φ with hand := φ.safe.files.map (handOf σ), changed := false }

/-- bytes as blocks, the last one with noughts behind -/
def chunks : Dat → List Dat
  | [] => []
  | x :: r => ((x :: r).take 256 ++ List.replicate (256 - ((x :: r).take 256).length) 0) :: chunks ((x :: r).drop 256)
termination_by l => l.length
decreasing_by simp; omega
/-- writes, one by one, up to the first one that is refused -/
def writes : Bl.St → List (Int × Dat) → Bl.St × Nat
  | σ, [] => (σ, 0)
  | σ, x :: r => if (Bl.write σ x.1 x.2).2 = 0 then writes (Bl.write σ x.1 x.2).1 r else ((Bl.write σ x.1 x.2).1, (Bl.write σ x.1 x.2).2)
def rootAt (r : Root) : Int := 16 * ((r.gen % 2 : Nat) : Int)
/-- where a root's bytes are written -/
def bodyW (r : Root) (s : Dat) : List (Int × Dat) := (chunks s).zipIdx.map fun p => (rootAt r + 1 + (p.2 : Int), p.1)
/-- P4.7, 2. and 3. -/
def put (σ : Bl.St) (ws : List (Int × Dat)) (r : Root) : Bl.St × Nat :=
  if (encode r σ.safe.length).2 ≠ 0 then (σ, 5) else
  let a := writes σ (ws ++ bodyW r (encode r σ.safe.length).1)
  if a.2 ≠ 0 then a else
  let b := Bl.sync a.1
  if b.2 ≠ 0 then b else
  let c := Bl.write b.1 (rootAt r) (head r.gen)
  if c.2 ≠ 0 then c else Bl.sync c.1

/-- a slot's root -/
noncomputable def slotRoot (σ : Bl.St) (k : Nat) : Option Root :=
  (decode ((List.range 15).flatMap fun (i : Nat) => blk σ (16 * (k : Int) + 1 + (i : Int))) σ.safe.length).filter fun r => decide (r.gen % 2 = k) && decide (blk σ (16 * (k : Int)) = head r.gen)
noncomputable def safeRoot (σ : Bl.St) : Option Root :=
  match slotRoot σ 0, slotRoot σ 1 with
  | some a, some b => some (if a.gen < b.gen then b else a)
  | some a, none => some a
  | none, b => b
/-- P4.2 -/
noncomputable def «open» (σ : Bl.St) : Bl.St × Option FS × Nat :=
  if σ.down then (σ, none, 4) else
  match safeRoot σ with
  | some r => (σ, some (revert σ ⟨σ.epochs, r, [], false⟩), 0)
  | none => if (put σ [] ⟨1, []⟩).2 ≠ 0 then ((put σ [] ⟨1, []⟩).1, none, (put σ [] ⟨1, []⟩).2) else ((put σ [] ⟨1, []⟩).1, some (revert (put σ [] ⟨1, []⟩).1 ⟨σ.epochs, ⟨1, []⟩, [], false⟩), 0)

def find (φ : FS) (name : Dat) : Option HF := φ.hand.find? fun f => f.name == name
def names (σ : Bl.St) (φ : FS) : List Dat := if dead σ φ then [] else φ.hand.map (·.name)
def size (σ : Bl.St) (φ : FS) (name : Dat) : Nat × Nat := if dead σ φ then (0, 4) else match find φ name with | none => (0, 6) | some f => (f.data.length, 0)
def read (σ : Bl.St) (φ : FS) (name : Dat) (i n : Int) : Dat × Nat :=
  if dead σ φ then ([], 4) else if i < 0 ∨ n < 0 then ([], 1) else match find φ name with | none => ([], 6) | some f => ((f.data.drop i.toNat).take n.toNat, 0)
/-- a file more, where its name stands -/
def insert (l : List HF) (x : HF) : List HF := l.takeWhile (fun f => bytesLess f.name x.name) ++ x :: l.dropWhile (fun f => bytesLess f.name x.name)
def drop (l : List HF) (name : Dat) : List HF := l.filter fun f => f.name != name
def create (σ : Bl.St) (φ : FS) (name : Dat) : FS × Nat :=
  if dead σ φ then (φ, 4) else if nameB name = false then (φ, 1) else match find φ name with
  | some _ => (φ, 7)
  | none => if 64 ≤ φ.hand.length then (φ, 5) else ({ φ with hand := insert φ.hand ⟨name, [], 0, []⟩, changed := true }, 0)
def append (σ : Bl.St) (φ : FS) (name s : Dat) : FS × Nat :=
  if dead σ φ then (φ, 4) else match find φ name with
  | none => (φ, 6)
  | some _ => ({ φ with hand := φ.hand.map fun f => if f.name == name then { f with data := f.data ++ s } else f, changed := φ.changed || !s.isEmpty }, 0)
def delete (σ : Bl.St) (φ : FS) (name : Dat) : FS × Nat :=
  if dead σ φ then (φ, 4) else match find φ name with | none => (φ, 6) | some _ => ({ φ with hand := drop φ.hand name, changed := true }, 0)
def rename (σ : Bl.St) (φ : FS) (a b : Dat) : FS × Nat :=
  if dead σ φ then (φ, 4) else if nameB b = false then (φ, 1) else match find φ a with
  | none => (φ, 6)
  | some f => if a = b then (φ, 0) else ({ φ with hand := insert (drop (drop φ.hand a) b) { f with name := b }, changed := true }, 0)
/-- the blocks that a commit may take, rising -/
def freeL (σ : Bl.St) (φ : FS) : List Int := ((List.range σ.safe.length).map fun (i : Nat) => (i : Int)).filter fun b => decide (32 ≤ b) && !(φ.safe.files.any fun f => f.blocks.contains b)
def free (σ : Bl.St) (φ : FS) : Nat := if dead σ φ then 0 else (freeL σ φ).length
/-- a commit's plan: the files, one by one, take of the free blocks -/
def plan : List HF → List Int → Option (List File × List (Int × Dat))
  | [], _ => some ([], [])
  | f :: r, fr =>
    if f.data.length ≤ f.old then (plan r fr).map fun x => (⟨f.name, (f.data.length : Int), f.blocks⟩ :: x.1, x.2) else
    let new := chunks (f.data.drop (f.old / 256 * 256))
    if fr.length < new.length then none else
    (plan r (fr.drop new.length)).map fun x => (⟨f.name, (f.data.length : Int), f.blocks.take (f.old / 256) ++ fr.take new.length⟩ :: x.1, (fr.take new.length).zip new ++ x.2)
/-- P4.7 -/
def commit (σ : Bl.St) (φ : FS) : Bl.St × FS × Nat :=
  if dead σ φ then (σ, φ, 4) else if φ.changed = false then (σ, φ, 0) else
  match plan φ.hand (freeL σ φ) with
  | none => (σ, φ, 5)
  | some p =>
    if (encode ⟨φ.safe.gen + 1, p.1⟩ σ.safe.length).2 ≠ 0 then (σ, φ, 5) else
    if (put σ p.2 ⟨φ.safe.gen + 1, p.1⟩).2 ≠ 0 then ((put σ p.2 ⟨φ.safe.gen + 1, p.1⟩).1, φ, (put σ p.2 ⟨φ.safe.gen + 1, p.1⟩).2)
    else ((put σ p.2 ⟨φ.safe.gen + 1, p.1⟩).1, revert (put σ p.2 ⟨φ.safe.gen + 1, p.1⟩).1 { φ with safe := ⟨φ.safe.gen + 1, p.1⟩ }, 0)
def root (σ : Bl.St) (φ : FS) : Root := if dead σ φ then ⟨0, []⟩ else φ.safe

/-! ### P4.10: what is pending behind a commit is of blocks that it may take, or of the other slot -/
theorem act_wait' (σ : Bl.St) : (Bl.act σ).1.wait = σ.wait := (Bl.act_safe σ).2.1
theorem write_wait (σ : Bl.St) (i : Int) (s : Dat) : ∀ x ∈ (Bl.write σ i s).1.wait, x ∈ σ.wait ∨ ((x.1 : Int) = i) := by
  intro x hx
  unfold Bl.write at hx
  split at hx
  · exact .inl hx
  · split at hx
    · rename_i h
      rw [act_wait'] at hx
      rcases List.mem_append.1 hx with h1 | h1
      · exact .inl h1
      · simp at h1; subst h1; exact .inr (by have := h.1.1; simp; omega)
    · exact .inl hx
theorem writes_wait : ∀ (ws : List (Int × Dat)) (σ : Bl.St), ∀ x ∈ (writes σ ws).1.wait, x ∈ σ.wait ∨ ∃ y ∈ ws, (x.1 : Int) = y.1
  | [], σ => fun x hx => .inl hx
  | y :: r, σ => fun x hx => by
    unfold writes at hx
    split at hx
    · rcases writes_wait r _ x hx with h | ⟨z, hz, e⟩
      · rcases write_wait σ y.1 y.2 x h with h | h
        · exact .inl h
        · exact .inr ⟨y, List.mem_cons_self .., h⟩
      · exact .inr ⟨z, List.mem_cons_of_mem _ hz, e⟩
    · rcases write_wait σ y.1 y.2 x hx with h | h
      · exact .inl h
      · exact .inr ⟨y, List.mem_cons_self .., h⟩
theorem sync_wait (σ : Bl.St) : ∀ x ∈ (Bl.sync σ).1.wait, x ∈ σ.wait := by
  intro x hx
  unfold Bl.sync at hx
  split at hx
  · exact hx
  · split at hx
    · rw [act_wait'] at hx; exact hx
    · cases hx
theorem put_wait (σ : Bl.St) (ws : List (Int × Dat)) (r : Root) : ∀ x ∈ (put σ ws r).1.wait, x ∈ σ.wait ∨ (∃ y ∈ ws, (x.1 : Int) = y.1) ∨ (∃ y ∈ bodyW r (encode r σ.safe.length).1, (x.1 : Int) = y.1) ∨ (x.1 : Int) = rootAt r := by
  intro x hx
  have step : ∀ x ∈ (writes σ (ws ++ bodyW r (encode r σ.safe.length).1)).1.wait, x ∈ σ.wait ∨ (∃ y ∈ ws, (x.1 : Int) = y.1) ∨ (∃ y ∈ bodyW r (encode r σ.safe.length).1, (x.1 : Int) = y.1) ∨ (x.1 : Int) = rootAt r := fun x h => by
    rcases writes_wait _ _ x h with h | ⟨y, hy, e⟩
    · exact .inl h
    · rcases List.mem_append.1 hy with hy | hy
      · exact .inr (.inl ⟨y, hy, e⟩)
      · exact .inr (.inr (.inl ⟨y, hy, e⟩))
  unfold put at hx
  split at hx
  · exact .inl hx
  · simp only at hx
    split at hx
    · exact step x hx
    · split at hx
      · exact step x (sync_wait _ x hx)
      · split at hx
        · rcases write_wait _ _ _ x hx with h | h
          · exact step x (sync_wait _ x h)
          · exact .inr (.inr (.inr h))
        · rcases write_wait _ _ _ x (sync_wait _ x hx) with h | h
          · exact step x (sync_wait _ x h)
          · exact .inr (.inr (.inr h))
theorem plan_free : ∀ (l : List HF) (fr : List Int) (p : List File × List (Int × Dat)), plan l fr = some p → ∀ y ∈ p.2, y.1 ∈ fr
  | [], fr, p, h => by simp only [plan, Option.some.injEq] at h; subst h; exact fun y hy => by cases hy
  | f :: r, fr, p, h => by
    unfold plan at h
    split at h
    · obtain ⟨x, hx, rfl⟩ := Option.map_eq_some_iff.1 h
      exact plan_free r fr x hx
    · simp only at h
      split at h
      · cases h
      · obtain ⟨x, hx, rfl⟩ := Option.map_eq_some_iff.1 h
        intro y hy
        rcases List.mem_append.1 hy with hy | hy
        · exact List.mem_of_mem_take (List.of_mem_zip (a := y.1) (b := y.2) hy).1
        · exact List.mem_of_mem_drop (plan_free r _ x hx y hy)
set_option maxRecDepth 100000 in
theorem chunks_len (s : Dat) : (chunks s).length * 256 < s.length + 256 := by
  induction h : s.length using Nat.strongRecOn generalizing s with
  | _ n ih =>
    match s, h with
    | [], h => rw [chunks]; simp
    | x :: r, h =>
      rw [chunks, List.length_cons]
      have := ih ((x :: r).drop 256).length (by rw [List.length_drop, h]; simp at h; omega) _ rfl
      rw [List.length_drop] at this
      simp at h this ⊢
      by_cases h2 : (chunks (r.drop 255)).length = 0
      · omega
      · have h3 : 256 ≤ r.length + 1 := by
          by_cases h4 : r.length + 1 ≤ 256
          · have : r.drop 255 = [] := List.drop_eq_nil_of_le (by omega)
            rw [this, chunks] at h2; simp at h2
          · omega
        omega
set_option maxRecDepth 100000 in
theorem bodyW_in {r : Root} {s : Dat} (hs : s.length ≤ 3840) : ∀ y ∈ bodyW r s, rootAt r < y.1 ∧ y.1 ≤ rootAt r + 15 := by
  intro y hy
  unfold bodyW at hy
  obtain ⟨p, hp, rfl⟩ := List.mem_map.1 hy
  have := (List.mem_zipIdx hp).2.1
  have h2 := chunks_len s
  simp only
  omega
theorem encode_short (r : Root) (n : Int) : (encode r n).1.length ≤ 3840 := by
  unfold encode
  split
  · split
    · rename_i h; exact h.2
    · simp
  · simp
/-- P4.10 -/
theorem commit_keeps {σ : Bl.St} {φ : FS} (hw : σ.wait = []) (hsafe : ∀ f ∈ φ.safe.files, ∀ b ∈ f.blocks, 32 ≤ b) : ∀ x ∈ (commit σ φ).1.wait, ¬ (rootAt φ.safe ≤ (x.1 : Int) ∧ (x.1 : Int) < rootAt φ.safe + 16) ∧ ∀ f ∈ φ.safe.files, (x.1 : Int) ∉ f.blocks := by
  intro x hx
  unfold commit at hx
  split at hx
  · rw [hw] at hx; cases hx
  · split at hx
    · rw [hw] at hx; cases hx
    · split at hx
      · rw [hw] at hx; cases hx
      · rename_i p hp
        have key : x ∈ (put σ p.2 ⟨φ.safe.gen + 1, p.1⟩).1.wait → _ := fun h => put_wait σ p.2 _ x h
        have hin : x ∈ (put σ p.2 ⟨φ.safe.gen + 1, p.1⟩).1.wait ∨ x ∈ σ.wait := by
          split at hx
          · exact .inr hx
          · split at hx <;> exact .inl hx
        rcases hin with hin | hin
        · have hfree : ∀ b ∈ freeL σ φ, 32 ≤ b ∧ ∀ f ∈ φ.safe.files, b ∉ f.blocks := fun b hb => by
            unfold freeL at hb
            have := (List.mem_filter.1 hb).2
            simp at this
            exact ⟨this.1, fun f hf => this.2 f hf⟩
          have hr : rootAt (⟨φ.safe.gen + 1, p.1⟩ : Root) = 16 - rootAt φ.safe := by unfold rootAt; simp only; omega
          have hr2 : rootAt φ.safe = 0 ∨ rootAt φ.safe = 16 := by unfold rootAt; omega
          have low : ∀ {b : Int}, b < 32 → ∀ f ∈ φ.safe.files, b ∉ f.blocks := fun hb f hf hm => by have := hsafe f hf _ hm; omega
          rcases key hin with h | ⟨y, hy, e⟩ | ⟨y, hy, e⟩ | e
          · rw [hw] at h; cases h
          · obtain ⟨k1, k2⟩ := hfree y.1 (plan_free _ _ p hp y hy)
            rw [e]
            exact ⟨by omega, k2⟩
          · obtain ⟨k1, k2⟩ := bodyW_in (encode_short _ _) y hy
            rw [e]
            exact ⟨by omega, low (by omega)⟩
          · rw [e]
            exact ⟨by omega, low (by omega)⟩
        · rw [hw] at hin; cases hin
end Fi
end Go.Proofs.YtoldjbgojjafdaaGreatDoor

/-
  Plain mathematics of P1.8: what is written is read again; keys rise as what they are keys of.
-/
namespace Go.Proofs.YtoldjbgojjafdaaGreatDoor
namespace Cd
open Go.RowKit
open Op (bytesLess)

theorem chain {a b c : World} (h : Below a.heap.size a b) (k : Below b.heap.size b c) : Below a.heap.size a c := h.trans (k.mono h.size)

theorem ofNat_low {m : Nat} (h : m < 256) : (UInt8.ofNat m).toNat = m := by rw [UInt8.toNat_ofNat']; omega

theorem takeGo_putU (r : List UInt8) (m : Nat) : ∀ (i acc : Nat), i ≤ 9 → m * 128 ^ i < 18446744073709551616 → (0 < i → 1 ≤ m) →
    takeGo (putU m ++ r) i acc = (acc + m * 128 ^ i, i + (putU m).length, 0) := by
  induction m using Nat.strongRecOn with
  | ind m ih =>
    intro i acc hi hm h1
    have h9 : (128 : Nat) ^ 9 = 9223372036854775808 := by decide
    by_cases h : m < 128
    · rw [putU_last h, List.cons_append, List.nil_append]
      have e := ofNat_low (m := m) (by omega)
      rw [go_last (by
        rw [e]
        rintro (⟨rfl, h2⟩ | ⟨h2, h3⟩)
        · have : 2 * 128 ^ 9 ≤ m * 128 ^ 9 := Nat.mul_le_mul_right _ h2
          omega
        · have := h1 h2; omega) (by rw [e]; exact h), e, Nat.mod_eq_of_lt h]
      simp
    · have e := ofNat_low (m := m % 128 + 128) (by omega)
      have hi8 : i ≠ 9 := by
        rintro rfl
        have : 128 * 128 ^ 9 ≤ m * 128 ^ 9 := Nat.mul_le_mul_right _ (by omega)
        omega
      rw [putU_more (by omega), List.cons_append, go_more (by rw [e]; omega) (by rw [e]; omega), e]
      have hs := put_step (m := m) (k := i) (Nat.le_refl _)
      rw [ih (m / 128) (by omega) (i + 1) _ (by omega) (by omega) (by omega)]
      have e2 : (m % 128 + 128) % 128 = m % 128 := by omega
      have e3 : m % 128 * 128 ^ i + m / 128 * 128 ^ (i + 1) = m * 128 ^ i := by
        rw [pow_s, ← Nat.mul_assoc, ← Nat.add_mul]
        congr 1; omega
      rw [e2, List.length_cons]
      simp only [Prod.mk.injEq, and_true]
      omega
theorem takeU_putU (m : Nat) (r : List UInt8) (h : m < 18446744073709551616) : takeU (putU m ++ r) = (m, (putU m).length, 0) := by
  unfold takeU
  rw [takeGo_putU r m 0 0 (by omega) (by simpa using h) (by omega)]
  simp
theorem takeT_putT (s r : List UInt8) (h : s.length < 18446744073709551616) : takeT (putT s ++ r) (s.length : Int) = (s, (putT s).length, 0) := by
  have hu := takeU_putU s.length (s ++ r) h
  have e : putT s ++ r = putU s.length ++ (s ++ r) := by rw [putT, List.append_assoc]
  rw [e, takeT_text hu (by simp) (by simp)]
  simp [putT]

theorem big_step (n k : Nat) : 256 * (n / 256 ^ (k + 1)) + n / 256 ^ k % 256 = n / 256 ^ k := by
  rw [Nat.pow_succ, ← Nat.div_div_eq_div_mul]; exact Nat.div_add_mod _ _
theorem wordGo_big (n : Nat) (h : n < 18446744073709551616) : wordGo (big n) = n := by
  have e : big n = [bigByte n 0, bigByte n 1, bigByte n 2, bigByte n 3, bigByte n 4, bigByte n 5, bigByte n 6, bigByte n 7] := by simp [big, List.range, List.range.loop]
  have hb : ∀ j, (bigByte n j).toNat = n / 256 ^ (7 - j) % 256 := fun j => ofNat_low (Nat.mod_lt _ (by omega))
  have h7 : 256 * 0 + n / 256 ^ 7 % 256 = n / 256 ^ 7 := by
    have : n / 256 ^ 7 < 256 := Nat.div_lt_of_lt_mul (by have : (256 : Nat) ^ 7 * 256 = 18446744073709551616 := by decide
                                                         omega)
    rw [Nat.mod_eq_of_lt this]; simp
  rw [e]
  unfold wordGo
  simp only [List.foldl_cons, List.foldl_nil, hb]
  rw [show 7 - 0 = 7 from rfl, show 7 - 1 = 6 from rfl, show 7 - 2 = 5 from rfl, show 7 - 3 = 4 from rfl, show 7 - 4 = 3 from rfl, show 7 - 5 = 2 from rfl, show 7 - 6 = 1 from rfl, show 7 - 7 = 0 from rfl]
  rw [h7, big_step n 6, big_step n 5, big_step n 4, big_step n 3, big_step n 2, big_step n 1, big_step n 0]
  simp
theorem big_len (n : Nat) : (big n).length = 8 := by simp [big]
theorem keyOf_turn (m : Int) (h1 : -9223372036854775808 ≤ m) (h2 : m ≤ 9223372036854775807) : keyOf (turn m) = m := by
  have ht := turn_lt m h2
  have h := u64_xor_nat (turn m) 9223372036854775808 ht (by omega)
  unfold keyOf
  rw [show (9223372036854775808 : Int) = ((9223372036854775808 : Nat) : Int) from rfl, h, xor_top _ ht]
  unfold turn at *
  by_cases hm : 0 ≤ m
  · rw [if_neg (by omega), IntWalk.wrap64_in _ ⟨by omega, by omega⟩]; omega
  · rw [if_pos (by omega)]
    have : (((m + 9223372036854775808).toNat + 9223372036854775808 : Nat) : Int) = m + 18446744073709551616 := by omega
    rw [this]
    unfold wrap64
    omega
theorem takeKI_big (m : Int) (r : List UInt8) (h1 : -9223372036854775808 ≤ m) (h2 : m ≤ 9223372036854775807) : takeKI (big (turn m) ++ r) = (m, 8, 0) := by
  rw [takeKI_eight (by rw [List.length_append, big_len]; omega), List.take_left' (big_len _), wordGo_big _ (turn_lt m h2), keyOf_turn m h1 h2]

theorem takeKGo_key (r : List UInt8) : ∀ (s acc : List UInt8) (k : Nat), takeKGo (keyGo s ++ [0, 1] ++ r) acc k = (acc ++ s, k + (keyGo s).length + 2, 0)
  | [], acc, k => by
    show takeKGo (0 :: 1 :: r) acc k = _
    rw [tk_end rfl rfl]; simp [keyGo]
  | c :: s, acc, k => by
    by_cases h : c.toNat = 0
    · have hc : c = 0 := UInt8.toNat_inj.1 (by simpa using h)
      rw [key_zero h]
      show takeKGo (c :: 255 :: (keyGo s ++ [0, 1] ++ r)) acc k = _
      rw [tk_zero h rfl, takeKGo_key r s]
      subst hc
      simp; omega
    · rw [key_plain h]
      show takeKGo (c :: (keyGo s ++ [0, 1] ++ r)) acc k = _
      rw [tk_plain h, takeKGo_key r s]
      simp; omega
theorem takeK_keyT (s r : List UInt8) : takeK (keyT s ++ r) = (s, (keyT s).length, 0) := by
  unfold takeK keyT
  rw [takeKGo_key]
  simp

/-! order -/
theorem foldl_ge (l : List UInt8) : ∀ a : Nat, a * 256 ^ l.length ≤ l.foldl (fun n c => 256 * n + c.toNat) a := by
  induction l with
  | nil => intro a; simp
  | cons c l ih =>
    intro a
    have h := ih (256 * a + c.toNat)
    have h2 : (256 * a) * 256 ^ l.length ≤ (256 * a + c.toNat) * 256 ^ l.length := Nat.mul_le_mul_right _ (by omega)
    rw [List.foldl_cons, List.length_cons, Nat.pow_succ]
    have h3 : a * (256 ^ l.length * 256) = (256 * a) * 256 ^ l.length := by rw [Nat.mul_comm 256 a, Nat.mul_assoc, Nat.mul_comm 256]
    omega
theorem bl_word : ∀ (p q : List UInt8) (a : Nat), p.length = q.length → bytesLess p q = decide (p.foldl (fun n c => 256 * n + c.toNat) a < q.foldl (fun n c => 256 * n + c.toNat) a)
  | [], [], a, _ => by simp [bl_nil_r]
  | c :: p, d :: q, a, h => by
    have hl : p.length = q.length := by simpa using h
    rw [bl_cons, List.foldl_cons, List.foldl_cons]
    rcases Nat.lt_trichotomy c.toNat d.toNat with h1 | h1 | h1
    · have e1 : decide (c.toNat < d.toNat) = true := by simpa using h1
      have hlt := foldl_lt p (256 * a + c.toNat)
      have hge := foldl_ge q (256 * a + d.toNat)
      rw [← hl] at hge
      have hm : (256 * a + c.toNat + 1) * 256 ^ p.length ≤ (256 * a + d.toNat) * 256 ^ p.length := Nat.mul_le_mul_right _ (by omega)
      rw [e1, Bool.true_or]
      exact (decide_eq_true (by omega)).symm
    · have e1 : decide (c.toNat < d.toNat) = false := by simp; omega
      have e2 : decide (c.toNat = d.toNat) = true := by simpa using h1
      rw [e1, e2, h1, bl_word p q (256 * a + d.toNat) hl]; simp
    · have e1 : decide (c.toNat < d.toNat) = false := by simp; omega
      have e2 : decide (c.toNat = d.toNat) = false := by simp; omega
      have hlt := foldl_lt q (256 * a + d.toNat)
      have hge := foldl_ge p (256 * a + c.toNat)
      rw [hl] at hge
      have hm : (256 * a + d.toNat + 1) * 256 ^ q.length ≤ (256 * a + c.toNat) * 256 ^ q.length := Nat.mul_le_mul_right _ (by omega)
      rw [e1, e2, Bool.false_or, Bool.false_and]
      exact (decide_eq_false (by omega)).symm
theorem bl_append : ∀ (p q x y : List UInt8), p.length = q.length → p ≠ q → bytesLess (p ++ x) (q ++ y) = bytesLess p q
  | [], [], _, _, _, h => absurd rfl h
  | c :: p, d :: q, x, y, h, hne => by
    rw [List.cons_append, List.cons_append, bl_cons, bl_cons]
    by_cases e : c.toNat = d.toNat
    · have hc : c = d := UInt8.toNat_inj.1 e
      rw [bl_append p q x y (by simpa using h) (by rintro rfl; exact hne (by rw [hc]))]
    · have e2 : decide (c.toNat = d.toNat) = false := by simpa using e
      rw [e2]; simp
theorem big_rises (m m' : Int) (x y : List UInt8) (h1 : -9223372036854775808 ≤ m) (h2 : m ≤ 9223372036854775807) (h1' : -9223372036854775808 ≤ m') (h2' : m' ≤ 9223372036854775807) (hne : m ≠ m') :
    bytesLess (big (turn m) ++ x) (big (turn m') ++ y) = decide (m < m') := by
  have t1 := turn_lt m h2
  have t2 := turn_lt m' h2'
  have w1 := wordGo_big _ t1
  have w2 := wordGo_big _ t2
  have hb : big (turn m) ≠ big (turn m') := by
    intro e
    rw [e, w2] at w1
    unfold turn at w1; omega
  rw [bl_append _ _ x y (by rw [big_len, big_len]) hb, bl_word _ _ 0 (by rw [big_len, big_len])]
  have e1 : (big (turn m)).foldl (fun n c => 256 * n + c.toNat) 0 = turn m := w1
  have e2 : (big (turn m')).foldl (fun n c => 256 * n + c.toNat) 0 = turn m' := w2
  rw [e1, e2, decide_eq_decide]
  unfold turn; omega

/-- two keys part before either ends, and as their texts do -/
theorem key_rises (x y : List UInt8) : ∀ (s t : List UInt8), s ≠ t → bytesLess (keyT s ++ x) (keyT t ++ y) = bytesLess s t ∧ common (keyT s) (keyT t) < (keyT s).length ∧ common (keyT s) (keyT t) < (keyT t).length
  | [], [], h => absurd rfl h
  | [], d :: t, _ => by
    unfold keyT
    by_cases h : d.toNat = 0
    · have hd : d = 0 := UInt8.toNat_inj.1 (by simpa using h)
      subst hd
      rw [key_zero rfl]
      refine ⟨rfl, ?_, ?_⟩
      · simp [keyGo, common]
      · simp [keyGo, common]
    · rw [key_plain h]
      have e1 : ¬ (0 : UInt8).toNat = d.toNat := by simp; omega
      refine ⟨?_, ?_, ?_⟩
      · show bytesLess (0 :: ([1] ++ x)) (d :: (keyGo t ++ [0, 1] ++ y)) = true
        rw [bl_cons]
        have : decide ((0 : UInt8).toNat < d.toNat) = true := by simp; omega
        rw [this]; rfl
      · show common (0 :: [1]) (d :: (keyGo t ++ [0, 1])) < _
        rw [common_ne e1]; simp [keyGo]
      · show common (0 :: [1]) (d :: (keyGo t ++ [0, 1])) < _
        rw [common_ne e1]; simp
  | c :: s, [], _ => by
    unfold keyT
    by_cases h : c.toNat = 0
    · have hd : c = 0 := UInt8.toNat_inj.1 (by simpa using h)
      subst hd
      rw [key_zero rfl]
      refine ⟨rfl, ?_, ?_⟩
      · simp [keyGo, common]
      · simp [keyGo, common]
    · rw [key_plain h]
      have e1 : ¬ c.toNat = (0 : UInt8).toNat := by simp; omega
      refine ⟨?_, ?_, ?_⟩
      · show bytesLess (c :: (keyGo s ++ [0, 1] ++ x)) (0 :: ([1] ++ y)) = false
        rw [bl_cons]
        have e2 : decide (c.toNat < (0 : UInt8).toNat) = false := by simp
        have e3 : decide (c.toNat = (0 : UInt8).toNat) = false := by simpa using e1
        rw [e2, e3]; rfl
      · show common (c :: (keyGo s ++ [0, 1])) (0 :: [1]) < _
        rw [common_ne e1]; simp
      · show common (c :: (keyGo s ++ [0, 1])) (0 :: [1]) < _
        rw [common_ne e1]; simp [keyGo]
  | c :: s, d :: t, hne => by
    unfold keyT
    by_cases e : c.toNat = d.toNat
    · have hcd : c = d := UInt8.toNat_inj.1 e
      subst hcd
      have ih := key_rises x y s t (by rintro rfl; exact hne rfl)
      unfold keyT at ih
      have hb : bytesLess (c :: s) (c :: t) = bytesLess s t := by rw [bl_cons]; simp
      rw [hb]
      by_cases h : c.toNat = 0
      · rw [key_zero h, key_zero h]
        refine ⟨?_, ?_, ?_⟩
        · show bytesLess (c :: 255 :: (keyGo s ++ [0, 1] ++ x)) (c :: 255 :: (keyGo t ++ [0, 1] ++ y)) = _
          rw [bl_cons, bl_cons, ih.1]; simp
        · show common (c :: 255 :: (keyGo s ++ [0, 1])) (c :: 255 :: (keyGo t ++ [0, 1])) < (c :: 255 :: (keyGo s ++ [0, 1])).length
          rw [common_eq rfl, common_eq rfl]; simp only [List.length_cons]; have := ih.2.1; omega
        · show common (c :: 255 :: (keyGo s ++ [0, 1])) (c :: 255 :: (keyGo t ++ [0, 1])) < (c :: 255 :: (keyGo t ++ [0, 1])).length
          rw [common_eq rfl, common_eq rfl]; simp only [List.length_cons]; have := ih.2.2; omega
      · rw [key_plain h, key_plain h]
        refine ⟨?_, ?_, ?_⟩
        · show bytesLess (c :: (keyGo s ++ [0, 1] ++ x)) (c :: (keyGo t ++ [0, 1] ++ y)) = _
          rw [bl_cons, ih.1]; simp
        · show common (c :: (keyGo s ++ [0, 1])) (c :: (keyGo t ++ [0, 1])) < (c :: (keyGo s ++ [0, 1])).length
          rw [common_eq rfl]; simp only [List.length_cons]; have := ih.2.1; omega
        · show common (c :: (keyGo s ++ [0, 1])) (c :: (keyGo t ++ [0, 1])) < (c :: (keyGo t ++ [0, 1])).length
          rw [common_eq rfl]; simp only [List.length_cons]; have := ih.2.2; omega
    · have e2 : decide (c.toNat = d.toNat) = false := by simpa using e
      have key_head : ∀ (a : UInt8) (l : List UInt8), ∃ r, keyGo (a :: l) = a :: r := by
        intro a l
        by_cases h : a.toNat = 0
        · exact ⟨_, key_zero h⟩
        · exact ⟨_, key_plain h⟩
      obtain ⟨r1, h1⟩ := key_head c s
      obtain ⟨r2, h2⟩ := key_head d t
      rw [h1, h2]
      refine ⟨?_, ?_, ?_⟩
      · show bytesLess (c :: (r1 ++ [0, 1] ++ x)) (d :: (r2 ++ [0, 1] ++ y)) = _
        rw [bl_cons, bl_cons, e2]; simp
      · show common (c :: (r1 ++ [0, 1])) (d :: (r2 ++ [0, 1])) < _
        rw [common_ne e]; simp
      · show common (c :: (r1 ++ [0, 1])) (d :: (r2 ++ [0, 1])) < _
        rw [common_ne e]; simp
end Cd
end Go.Proofs.YtoldjbgojjafdaaGreatDoor

/-
  Plain mathematics of P2.5: what was put is taken; no beginning of it is a frame; one byte turned is seen; frames one behind the other.
-/
namespace Go.Proofs.YtoldjbgojjafdaaGreatDoor
namespace Fr
open Go.RowKit

/-! what was put is taken -/
theorem takeT_putT' (s r : List UInt8) (m : Int) (h : s.length < 18446744073709551616) (hm : s.length ≤ m.toNat) : Cd.takeT (Cd.putT s ++ r) m = (s, (Cd.putT s).length, 0) := by
  have hu := Cd.takeU_putU s.length (s ++ r) h
  have e : Cd.putT s ++ r = Cd.putU s.length ++ (s ++ r) := by rw [Cd.putT, List.append_assoc]
  rw [e, Cd.takeT_text hu hm (by simp)]
  simp [Cd.putT]
theorem lit4 (n : Nat) (x : List UInt8) : (lit n ++ x).take 4 = lit n := by rw [List.take_left' (lit_len n)]
theorem lit4d (n : Nat) (x : List UInt8) : (lit n ++ x).drop 4 = x := by rw [List.drop_left' (lit_len n)]
theorem lit5d (n : Nat) (c : UInt8) (x : List UInt8) : (lit n ++ c :: x).drop 5 = x := by
  have : (lit n ++ c :: x).drop 5 = ((lit n ++ c :: x).drop 4).drop 1 := by rw [List.drop_drop]
  rw [this, lit4d]; rfl
theorem lit4g (n : Nat) (c : UInt8) (x : List UInt8) : (lit n ++ c :: x).getD 4 0 = c := by
  rw [List.getD_eq_getElem?_getD, List.getElem?_append_right (by rw [lit_len]; omega), lit_len]; rfl
theorem litlen (n : Nat) (c : UInt8) (x : List UInt8) : (lit n ++ c :: x).length = 5 + x.length := by rw [List.length_append, lit_len, List.length_cons]; omega
/-- whatever stands in the sum's place: the frame is there just where the sum is the right one -/
theorem take_form {n : Nat} {c : UInt8} {l r : List UInt8} (hc : ¬ c.toNat = 0) (hl : l.length ≤ 262144) :
    take (lit n ++ c :: (Cd.putT l ++ r)) = if lit (sum (c :: Cd.putT l)) = lit n then ((c, l), 5 + (Cd.putT l).length, 0) else ((0, []), 0, 3) := by
  have ht := takeT_putT' l r 262144 (by omega) (by simpa using hl)
  have h5 : 5 ≤ (lit n ++ c :: (Cd.putT l ++ r)).length := by rw [litlen]; omega
  have h0 : ¬ ((lit n ++ c :: (Cd.putT l ++ r)).getD 4 0).toNat = 0 := by rw [lit4g]; exact hc
  have hr : ((lit n ++ c :: (Cd.putT l ++ r)).drop 4).take ((Cd.putT l).length + 1) = c :: Cd.putT l := by rw [lit4d, List.take_succ_cons, List.take_left' rfl]
  by_cases hs : lit (sum (c :: Cd.putT l)) = lit n
  · rw [take_ok (t := l) (n := (Cd.putT l).length) h5 h0 (by rw [lit5d]; exact ht) (by rw [hr, lit4]; exact hs), if_pos hs, lit4g]
  · rw [take_bad (t := l) (n := (Cd.putT l).length) h5 h0 (by rw [lit5d]; exact ht) (by rw [hr, lit4]; exact hs), if_neg hs]
theorem take_put {c : UInt8} {l r : List UInt8} (hc : ¬ c.toNat = 0) (hl : l.length ≤ 262144) :
    take ((put c l).1 ++ r) = ((c, l), (put c l).1.length, 0) := by
  have e : (lit (sum (c :: Cd.putT l)) ++ c :: Cd.putT l) ++ r = lit (sum (c :: Cd.putT l)) ++ c :: (Cd.putT l ++ r) := by simp
  rw [put_ok hc hl]
  show take ((lit (sum (c :: Cd.putT l)) ++ c :: Cd.putT l) ++ r) = _
  rw [e, take_form hc hl, if_pos rfl]
  show _ = ((c, l), (lit (sum (c :: Cd.putT l)) ++ c :: Cd.putT l).length, 0)
  rw [litlen]

/-! no beginning is a frame -/
theorem takeGo_cut (m : Nat) : ∀ (i acc k : Nat), i ≤ 9 → m * 128 ^ i < 18446744073709551616 → (0 < i → 1 ≤ m) → k < (Cd.putU m).length → Cd.takeGo ((Cd.putU m).take k) i acc = (0, 0, 2) := by
  induction m using Nat.strongRecOn with
  | ind m ih =>
    intro i acc k hi hm h1 hk
    cases k with
    | zero => simp [Cd.takeGo]
    | succ k =>
      have h9 : (128 : Nat) ^ 9 = 9223372036854775808 := by decide
      by_cases h : m < 128
      · rw [Cd.putU_last h] at hk; simp at hk
      · have e := Cd.ofNat_low (m := m % 128 + 128) (by omega)
        have hi8 : i ≠ 9 := by
          rintro rfl
          have : 128 * 128 ^ 9 ≤ m * 128 ^ 9 := Nat.mul_le_mul_right _ (by omega)
          omega
        rw [Cd.putU_more (by omega), List.length_cons] at hk
        rw [Cd.putU_more (by omega), List.take_succ_cons, Cd.go_more (by rw [e]; omega) (by rw [e]; omega)]
        have hs := Cd.put_step (m := m) (k := i) (Nat.le_refl _)
        exact ih (m / 128) (by omega) (i + 1) _ k (by omega) (by omega) (by omega) (by omega)
theorem takeU_cut (m k : Nat) (h : m < 18446744073709551616) (hk : k < (Cd.putU m).length) : Cd.takeU ((Cd.putU m).take k) = (0, 0, 2) :=
  takeGo_cut m 0 0 k (by omega) (by simpa using h) (by omega) hk
theorem takeT_cut (l : List UInt8) (k : Nat) (hl : l.length ≤ 262144) (hk : k < (Cd.putT l).length) : Cd.takeT ((Cd.putT l).take k) 262144 = ([], 0, 2) := by
  unfold Cd.putT at hk ⊢
  rw [List.length_append] at hk
  by_cases h : k < (Cd.putU l.length).length
  · rw [List.take_append_of_le_length (by omega)]
    exact Cd.takeT_err (takeU_cut _ _ (by omega) h) (by omega)
  · rw [List.take_append, List.take_of_length_le (by omega)]
    have hu := Cd.takeU_putU l.length (l.take (k - (Cd.putU l.length).length)) (by omega)
    exact Cd.takeT_more hu (by simpa using hl) (by rw [List.length_append, List.length_take]; omega)
theorem take_cut {c : UInt8} {l : List UInt8} (hc : ¬ c.toNat = 0) (hl : l.length ≤ 262144) (k : Nat) (hk : k < (put c l).1.length) : (take ((put c l).1.take k)).2.2 = 2 := by
  rw [put_ok hc hl] at hk ⊢
  simp only at hk ⊢
  rw [litlen] at hk
  by_cases h5 : k < 5
  · rw [take_few (by rw [List.length_take]; omega)]
  · have e : (lit (sum (c :: Cd.putT l)) ++ c :: Cd.putT l).take k = lit (sum (c :: Cd.putT l)) ++ c :: (Cd.putT l).take (k - 5) := by
      rw [List.take_append, List.take_of_length_le (by rw [lit_len]; omega), lit_len, show k - 4 = (k - 5) + 1 from by omega, List.take_succ_cons]
    rw [e, take_err (t := []) (n := 0) (e := 2) (by rw [litlen]; omega) (by rw [lit4g]; exact hc) (by rw [lit5d]; exact takeT_cut l (k - 5) hl (by omega)) (by omega)]

/-! one byte turned is seen -/
theorem xor_cancel {a b p : Nat} (h : a ^^^ p = b ^^^ p) : a = b := by
  have h2 := congrArg (· ^^^ p) h
  simpa [Nat.xor_assoc] using h2
theorem xor_cancel_l {a b p : Nat} (h : p ^^^ a = p ^^^ b) : a = b := xor_cancel (p := p) (by rw [Nat.xor_comm a p, Nat.xor_comm b p]; exact h)
theorem step_mixed {a b : Nat} (ha : a < 4294967296) (hb : b < 4294967296) (h : a / 2 ^^^ 3988292384 = b / 2) : False := by
  have h2 : 3988292384 = a / 2 ^^^ b / 2 := by rw [← h, ← Nat.xor_assoc, Nat.xor_self, Nat.zero_xor]
  have h3 : a / 2 ^^^ b / 2 < 2 ^ 31 := Nat.xor_lt_two_pow (by omega) (by omega)
  omega
theorem step_inj {a b : Nat} (ha : a < 4294967296) (hb : b < 4294967296) (h : step a = step b) : a = b := by
  by_cases oa : a % 2 = 1
  · by_cases ob : b % 2 = 1
    · rw [step_odd oa, step_odd ob] at h
      have := xor_cancel h; omega
    · rw [step_odd oa, step_even ob] at h
      exact (step_mixed ha hb h).elim
  · by_cases ob : b % 2 = 1
    · rw [step_even oa, step_odd ob] at h
      exact (step_mixed hb ha h.symm).elim
    · rw [step_even oa, step_even ob] at h; omega
theorem steps_inj {a b : Nat} (ha : a < 4294967296) (hb : b < 4294967296) : ∀ k, steps k a = steps k b → a = b
  | 0, h => h
  | k + 1, h => steps_inj ha hb k (step_inj (steps_lt ha k) (steps_lt hb k) h)
theorem byte_inj {a b : Nat} (ha : a < 4294967296) (hb : b < 4294967296) (c : UInt8) (h : byte a c = byte b c) : a = b := by
  have hc := c.toNat_lt
  exact xor_cancel (steps_inj (xor_lt32 ha (by omega)) (xor_lt32 hb (by omega)) 8 h)
theorem byte_inj_c {a : Nat} (ha : a < 4294967296) {c d : UInt8} (h : byte a c = byte a d) : c = d := by
  have hc := c.toNat_lt
  have hd := d.toNat_lt
  exact UInt8.toNat_inj.1 (xor_cancel_l (steps_inj (xor_lt32 ha (by omega)) (xor_lt32 ha (by omega)) 8 h))
theorem run_inj (l : List UInt8) : ∀ {a b : Nat}, a < 4294967296 → b < 4294967296 → run a l = run b l → a = b := by
  induction l with
  | nil => intro a b _ _ h; exact h
  | cons c l ih => intro a b ha hb h; exact byte_inj ha hb c (ih (byte_lt ha c) (byte_lt hb c) h)
theorem sum_turned {a b : List UInt8} {c d : UInt8} (h : c ≠ d) : sum (a ++ c :: b) ≠ sum (a ++ d :: b) := by
  intro e
  unfold sum at e
  have e2 := xor_cancel_l e
  rw [run_app, run_app] at e2
  have hr := run_lt a (n := 4294967295) (by omega)
  exact h (byte_inj_c hr (run_inj b (byte_lt hr c) (byte_lt hr d) e2))

/-- whatever four bytes stand in the sum's place -/
theorem take_form4 {h : List UInt8} {c : UInt8} {l r : List UInt8} (hh : h.length = 4) (hc : ¬ c.toNat = 0) (hl : l.length ≤ 262144) :
    take (h ++ c :: (Cd.putT l ++ r)) = if lit (sum (c :: Cd.putT l)) = h then ((c, l), 5 + (Cd.putT l).length, 0) else ((0, []), 0, 3) := by
  have ht := takeT_putT' l r 262144 (by omega) (by simpa using hl)
  have hlen : (h ++ c :: (Cd.putT l ++ r)).length = 5 + (Cd.putT l ++ r).length := by rw [List.length_append, hh, List.length_cons]; omega
  have h4 : (h ++ c :: (Cd.putT l ++ r)).take 4 = h := List.take_left' hh
  have h4d : (h ++ c :: (Cd.putT l ++ r)).drop 4 = c :: (Cd.putT l ++ r) := List.drop_left' hh
  have h5d : (h ++ c :: (Cd.putT l ++ r)).drop 5 = Cd.putT l ++ r := by
    have : (h ++ c :: (Cd.putT l ++ r)).drop 5 = ((h ++ c :: (Cd.putT l ++ r)).drop 4).drop 1 := by rw [List.drop_drop]
    rw [this, h4d]; rfl
  have hg : (h ++ c :: (Cd.putT l ++ r)).getD 4 0 = c := by
    rw [List.getD_eq_getElem?_getD, List.getElem?_append_right (by omega), hh]; rfl
  have h5 : 5 ≤ (h ++ c :: (Cd.putT l ++ r)).length := by omega
  have h0 : ¬ ((h ++ c :: (Cd.putT l ++ r)).getD 4 0).toNat = 0 := by rw [hg]; exact hc
  have hr : ((h ++ c :: (Cd.putT l ++ r)).drop 4).take ((Cd.putT l).length + 1) = c :: Cd.putT l := by rw [h4d, List.take_succ_cons, List.take_left' rfl]
  by_cases hs : lit (sum (c :: Cd.putT l)) = h
  · rw [take_ok (t := l) (n := (Cd.putT l).length) h5 h0 (by rw [h5d]; exact ht) (by rw [hr, h4]; exact hs), if_pos hs, hg]
  · rw [take_bad (t := l) (n := (Cd.putT l).length) h5 h0 (by rw [h5d]; exact ht) (by rw [hr, h4]; exact hs), if_neg hs]
/-- a frame of which one byte, in its sum, its kind or its load, is another one is refused -/
theorem take_turned {c : UInt8} {l : List UInt8} (hc : ¬ c.toNat = 0) (hl : l.length ≤ 262144) (p : Nat) (x : UInt8) (hp : p < (put c l).1.length) (hpl : p ≤ 4 ∨ (put c l).1.length - l.length ≤ p) (hx : x ≠ (put c l).1.getD p 0) :
    (take ((put c l).1.set p x)).2.2 = 3 := by
  rw [put_ok hc hl] at hp hpl hx ⊢
  simp only at hp hpl hx ⊢
  rw [litlen] at hp hpl
  rcases Nat.lt_trichotomy p 4 with h | h | h
  · have e : (lit (sum (c :: Cd.putT l)) ++ c :: Cd.putT l).set p x = (lit (sum (c :: Cd.putT l))).set p x ++ c :: (Cd.putT l ++ []) := by
      rw [List.set_append_left _ _ (by rw [lit_len]; exact h), List.append_nil]
    rw [e, take_form4 (by rw [List.length_set, lit_len]) hc hl, if_neg]
    intro he
    apply hx
    have := congrArg (fun z => z.getD p 0) he
    simp only [List.getD_eq_getElem?_getD] at this ⊢
    rw [List.getElem?_set_self (by rw [lit_len]; exact h)] at this
    rw [List.getElem?_append_left (by rw [lit_len]; exact h), this]; rfl
  · subst h
    have e : (lit (sum (c :: Cd.putT l)) ++ c :: Cd.putT l).set 4 x = lit (sum (c :: Cd.putT l)) ++ x :: (Cd.putT l ++ []) := by
      rw [List.set_append_right _ _ (by rw [lit_len]; omega), lit_len, List.append_nil]; rfl
    rw [lit4g] at hx
    rw [e]
    by_cases h0 : x.toNat = 0
    · rw [take_zero (by rw [litlen]; omega) (by rw [lit4g]; exact h0)]
    · rw [take_form h0 hl, if_neg]
      intro he
      have := lit_inj (sum_lt _) (sum_lt _) he
      exact sum_turned (a := []) (b := Cd.putT l) hx this
  · obtain ⟨q, hq⟩ : ∃ q, q = p - 5 - (Cd.putU l.length).length := ⟨_, rfl⟩
    have hpt : (Cd.putT l).length = (Cd.putU l.length).length + l.length := by rw [Cd.putT, List.length_append]
    have hql : q < l.length := by omega
    have hpq : p = 4 + 1 + ((Cd.putU l.length).length + q) := by omega
    have hlen : (l.set q x).length = l.length := List.length_set
    have e : (lit (sum (c :: Cd.putT l)) ++ c :: Cd.putT l).set p x = lit (sum (c :: Cd.putT l)) ++ c :: (Cd.putT (l.set q x) ++ []) := by
      rw [List.set_append_right _ _ (by rw [lit_len]; omega), lit_len, show p - 4 = ((Cd.putU l.length).length + q) + 1 from by omega, List.set_cons_succ, List.append_nil]
      unfold Cd.putT
      rw [hlen, List.set_append_right _ _ (by omega), show (Cd.putU l.length).length + q - (Cd.putU l.length).length = q from by omega]
    have hg : (lit (sum (c :: Cd.putT l)) ++ c :: Cd.putT l).getD p 0 = l[q] := by
      rw [List.getD_eq_getElem?_getD, List.getElem?_append_right (by rw [lit_len]; omega), lit_len, show p - 4 = ((Cd.putU l.length).length + q) + 1 from by omega, List.getElem?_cons_succ]
      unfold Cd.putT
      rw [List.getElem?_append_right (by omega), show (Cd.putU l.length).length + q - (Cd.putU l.length).length = q from by omega, List.getElem?_eq_getElem hql]; rfl
    rw [hg] at hx
    rw [e, take_form hc (by rw [hlen]; exact hl), if_neg]
    intro he
    have hs := lit_inj (sum_lt _) (sum_lt _) he
    have e1 : l.set q x = l.take q ++ x :: l.drop (q + 1) := List.set_eq_take_append_cons_drop ▸ (by rw [if_pos hql])
    have e2 : l = l.take q ++ l[q] :: l.drop (q + 1) := by rw [← List.drop_eq_getElem_cons hql, List.take_append_drop]
    have f1 : c :: Cd.putT (l.set q x) = (c :: (Cd.putU l.length ++ l.take q)) ++ x :: l.drop (q + 1) := by unfold Cd.putT; rw [hlen, e1]; simp
    have f2 : c :: Cd.putT l = (c :: (Cd.putU l.length ++ l.take q)) ++ l[q] :: l.drop (q + 1) := by
      unfold Cd.putT
      conv => lhs; rw [e2]
      simp
    rw [f1, f2] at hs
    exact sum_turned hx hs

/-! frames one behind the other -/
theorem allGo_ge (l : List UInt8) (p : Nat) : p ≤ (allGo l p).2 := by
  by_cases h : p < l.length ∧ (take (l.drop p)).2.2 = 0 ∧ 0 < (take (l.drop p)).2.1
  · rw [allGo_more h]
    have := allGo_ge l (p + (take (l.drop p)).2.1)
    simp only; omega
  · rw [allGo_stop h]; exact Nat.le_refl _
termination_by l.length - p
theorem allGo_put {pre r : List UInt8} {c : UInt8} {l : List UInt8} (hc : ¬ c.toNat = 0) (hl : l.length ≤ 262144) :
    allGo (pre ++ ((put c l).1 ++ r)) pre.length = ((pre.length, (c, l)) :: (allGo (pre ++ ((put c l).1 ++ r)) (pre.length + (put c l).1.length)).1, (allGo (pre ++ ((put c l).1 ++ r)) (pre.length + (put c l).1.length)).2) := by
  have ht : take ((pre ++ ((put c l).1 ++ r)).drop pre.length) = ((c, l), (put c l).1.length, 0) := by rw [List.drop_left' rfl]; exact take_put hc hl
  have hp : 5 ≤ (put c l).1.length := by rw [put_ok hc hl]; simp only; rw [litlen]; omega
  have := allGo_more (l := pre ++ ((put c l).1 ++ r)) (p := pre.length) (by rw [ht]; exact ⟨by rw [List.length_append, List.length_append]; omega, rfl, by show 0 < (put c l).1.length; omega⟩)
  rw [ht] at this
  exact this
end Fr
end Go.Proofs.YtoldjbgojjafdaaGreatDoor

/-
  Plain mathematics of P4.1: a root's bytes tell the root.
-/
namespace Go.Proofs.YtoldjbgojjafdaaGreatDoor
namespace Fi

theorem putU_inj {a b : Nat} {x y : Dat} (ha : a < 18446744073709551616) (hb : b < 18446744073709551616) (h : Cd.putU a ++ x = Cd.putU b ++ y) : a = b ∧ x = y := by
  have h1 := Cd.takeU_putU a x ha
  rw [h, Cd.takeU_putU b y hb] at h1
  obtain rfl : b = a := congrArg (·.1) h1
  exact ⟨rfl, List.append_cancel_left h⟩
theorem putT_inj {s t x y : Dat} (ha : s.length < 18446744073709551616) (hb : t.length < 18446744073709551616) (h : Cd.putT s ++ x = Cd.putT t ++ y) : s = t ∧ x = y := by
  unfold Cd.putT at h
  rw [List.append_assoc, List.append_assoc] at h
  obtain ⟨h1, h2⟩ := putU_inj ha hb h
  exact List.append_inj h2 h1
/-- a run that may be -/
def RunOk (p : Int × Nat) : Prop := 0 ≤ p.1 ∧ p.1 < 18446744073709551616 ∧ p.2 < 18446744073709551616
theorem runB_inj {p q : Int × Nat} {x y : Dat} (hp : RunOk p) (hq : RunOk q) (h : runB p ++ x = runB q ++ y) : p = q ∧ x = y := by
  unfold runB at h
  rw [List.append_assoc, List.append_assoc] at h
  obtain ⟨h1, h2⟩ := putU_inj (by have := hp.2.1; omega) (by have := hq.2.1; omega) h
  obtain ⟨h3, h4⟩ := putU_inj hp.2.2 hq.2.2 h2
  have := hp.1
  have := hq.1
  exact ⟨Prod.ext (by omega) h3, h4⟩
theorem runsB_inj : ∀ {L L' : List (Int × Nat)} {x y : Dat}, L.length = L'.length → (∀ p ∈ L, RunOk p) → (∀ p ∈ L', RunOk p) → L.flatMap runB ++ x = L'.flatMap runB ++ y → L = L' ∧ x = y
  | [], [], x, y, _, _, _, h => ⟨rfl, by simpa using h⟩
  | [], q :: r, _, _, hl, _, _, _ => by simp at hl
  | p :: r, [], _, _, hl, _, _, _ => by simp at hl
  | p :: r, q :: r', x, y, hl, hp, hq, h => by
    rw [List.flatMap_cons, List.flatMap_cons, List.append_assoc, List.append_assoc] at h
    obtain ⟨h1, h2⟩ := runB_inj (hp p (List.mem_cons_self ..)) (hq q (List.mem_cons_self ..)) h
    obtain ⟨h3, h4⟩ := runsB_inj (by simpa using hl) (fun z hz => hp z (List.mem_cons_of_mem _ hz)) (fun z hz => hq z (List.mem_cons_of_mem _ hz)) h2
    exact ⟨by rw [h1, h3], h4⟩
theorem runs_ok (l : List Int) (h : ∀ b ∈ l, 0 ≤ b ∧ b < 18446744073709551616) (hl : l.length < 18446744073709551615) : ∀ p ∈ runs l, RunOk p := by
  induction hn : l.length using Nat.strongRecOn generalizing l with
  | _ n ih =>
    match l, hn with
    | [], _ => intro p hp; rw [runs] at hp; cases hp
    | y :: r, hn =>
      rw [runs_cons]
      intro p hp
      rcases List.mem_cons.1 hp with rfl | hp
      · have := runLen_le r y
        have h0 := h y (List.mem_cons_self ..)
        simp at hl
        exact ⟨h0.1, h0.2, by simp only; omega⟩
      · simp at hn hl
        exact ih (r.drop (runLen y r)).length (by simp; omega) _ (fun b hb => h b (List.mem_cons_of_mem _ (List.mem_of_mem_drop hb))) (by simp; omega) rfl p hp
/-- a file that may be in a root -/
structure FOk (f : File) : Prop where
  name : f.name.length ≤ 32
  size : 0 ≤ f.size ∧ f.size < 18446744073709551616
  blocks : ∀ b ∈ f.blocks, 0 ≤ b ∧ b < 18446744073709551616
  many : f.blocks.length < 18446744073709551615
theorem fileBytes_inj {f g : File} {x y : Dat} (hf : FOk f) (hg : FOk g) (h : fileBytes f ++ x = fileBytes g ++ y) : f = g ∧ x = y := by
  unfold fileBytes runBytes at h
  simp only [List.append_assoc] at h
  obtain ⟨h1, h2⟩ := putT_inj (by have := hf.name; omega) (by have := hg.name; omega) h
  obtain ⟨h3, h4⟩ := putU_inj (by have := hf.size; omega) (by have := hg.size; omega) h2
  have rf := runs_len f.blocks
  have rg := runs_len g.blocks
  have mf := hf.many
  have mg := hg.many
  obtain ⟨h5, h6⟩ := putU_inj (by omega) (by omega) h4
  obtain ⟨h7, h8⟩ := runsB_inj h5 (runs_ok _ hf.blocks hf.many) (runs_ok _ hg.blocks hg.many) h6
  have h9 : f.blocks = g.blocks := by rw [← runs_expand f.blocks, h7, runs_expand]
  obtain ⟨fn, fs, fb⟩ := f
  obtain ⟨gn, gs, gb⟩ := g
  simp only at h1 h3 h9
  have s1 := hf.size
  have s2 := hg.size
  simp only at s1 s2
  obtain rfl : fs = gs := by omega
  exact ⟨by rw [h1, h9], h8⟩
theorem files_inj : ∀ {L L' : List File} {x y : Dat}, L.length = L'.length → (∀ f ∈ L, FOk f) → (∀ f ∈ L', FOk f) → L.flatMap fileBytes ++ x = L'.flatMap fileBytes ++ y → L = L' ∧ x = y
  | [], [], x, y, _, _, _, h => ⟨rfl, by simpa using h⟩
  | [], q :: r, _, _, hl, _, _, _ => by simp at hl
  | p :: r, [], _, _, hl, _, _, _ => by simp at hl
  | p :: r, q :: r', x, y, hl, hp, hq, h => by
    rw [List.flatMap_cons, List.flatMap_cons, List.append_assoc, List.append_assoc] at h
    obtain ⟨h1, h2⟩ := fileBytes_inj (hp p (List.mem_cons_self ..)) (hq q (List.mem_cons_self ..)) h
    obtain ⟨h3, h4⟩ := files_inj (by simpa using hl) (fun z hz => hp z (List.mem_cons_of_mem _ hz)) (fun z hz => hq z (List.mem_cons_of_mem _ hz)) h2
    exact ⟨by rw [h1, h3], h4⟩
/-- a root that may be -/
structure ROk (r : Root) : Prop where
  gen : 1 ≤ r.gen ∧ r.gen ≤ 4611686018427387904
  many : r.files.length ≤ 64
  files : ∀ f ∈ r.files, FOk f
theorem rootLoad_inj {r q : Root} {x y : Dat} (hr : ROk r) (hq : ROk q) (h : rootLoad r ++ x = rootLoad q ++ y) : r = q ∧ x = y := by
  unfold rootLoad at h
  simp only [List.append_assoc] at h
  have := hr.gen
  have := hq.gen
  have := hr.many
  have := hq.many
  obtain ⟨h1, h2⟩ := putU_inj (by omega) (by omega) h
  obtain ⟨h3, h4⟩ := putU_inj (by omega) (by omega) h2
  obtain ⟨h5, h6⟩ := files_inj h3 hr.files hq.files h4
  obtain ⟨rg, rf⟩ := r
  obtain ⟨qg, qf⟩ := q
  simp only at h1 h5
  exact ⟨by rw [h1, h5], h6⟩
/-- the root with whose bytes a text begins is one alone -/
theorem isRoot_one {l : Dat} {n : Int} {r q : Root} (hr : ROk r) (hq : ROk q) (h1 : IsRoot l n r) (h2 : IsRoot l n q) (lr : (rootLoad r).length ≤ 262144) (lq : (rootLoad q).length ≤ 262144) : r = q := by
  obtain ⟨e1, t1, p1⟩ := h1
  obtain ⟨e2, t2, p2⟩ := h2
  have f1 := Fr.take_put (c := 1) (l := rootLoad r) (r := t1) (by decide) lr
  have f2 := Fr.take_put (c := 1) (l := rootLoad q) (r := t2) (by decide) lq
  have x1 : (encode r n).1 = (Fr.put 1 (rootLoad r)).1 := by
    unfold encode at e1 ⊢
    split at e1
    · rename_i h
      rw [if_pos h]
      split at e1
      · rename_i h'; rw [if_pos h']
      · cases e1
    · cases e1
  have x2 : (encode q n).1 = (Fr.put 1 (rootLoad q)).1 := by
    unfold encode at e2 ⊢
    split at e2
    · rename_i h
      rw [if_pos h]
      split at e2
      · rename_i h'; rw [if_pos h']
      · cases e2
    · cases e2
  rw [← x1, p1] at f1
  rw [← x2, p2, f1] at f2
  have h3 : rootLoad r = rootLoad q := congrArg (fun z => z.1.2) f2
  exact (rootLoad_inj (x := []) (y := []) hr hq (by rw [h3])).1
theorem put_load {c : UInt8} {l : Dat} (h : (Fr.put c l).2 = 0) : l.length ≤ 262144 := by
  by_cases h1 : 262144 < l.length
  · rw [Fr.put_long h1] at h; cases h
  · omega
theorem encode_ok {r : Root} {n : Int} (h : (encode r n).2 = 0) : may r (min n 16384) = true ∧ (Fr.put 1 (rootLoad r)).2 = 0 ∧ (Fr.put 1 (rootLoad r)).1.length ≤ 3840 ∧ (encode r n).1 = (Fr.put 1 (rootLoad r)).1 := by
  unfold encode at h ⊢
  split at h
  · rename_i h1
    rw [if_pos h1]
    split at h
    · rename_i h2
      rw [if_pos h2]
      exact ⟨h1, h2.1, h2.2, rfl⟩
    · cases h
  · cases h
theorem rok_of_may {r : Root} {m : Int} (hm : m ≤ 16384) (h : may r m = true) : ROk r := by
  obtain ⟨g1, g2, g3, hf⟩ := may_in h
  have hgo : mayGo m r.files none [] = true := by
    unfold may at h
    simp only [Bool.and_eq_true] at h
    exact h.2
  refine ⟨⟨g1, g2⟩, g3, fun f hff => ?_⟩
  obtain ⟨k1, k2, k3⟩ := hf f hff
  obtain ⟨l1, l2⟩ := mayGo_len hm hgo List.nodup_nil (fun b hb => by cases hb) f hff
  refine ⟨k3, ⟨k2, ?_⟩, fun b hb => by have := k1 b hb; omega, by omega⟩
  unfold takes at l2
  omega
/-- THE ROOT WITH WHOSE BYTES A TEXT BEGINS IS ONE ALONE -/
theorem isRoot_same {l : Dat} {n : Int} {r q : Root} (h1 : IsRoot l n r) (h2 : IsRoot l n q) : r = q := by
  obtain ⟨a1, b1, _, _⟩ := encode_ok h1.1
  obtain ⟨a2, b2, _, _⟩ := encode_ok h2.1
  exact isRoot_one (rok_of_may (Int.min_le_right _ _) a1) (rok_of_may (Int.min_le_right _ _) a2) h1 h2 (put_load b1) (put_load b2)
theorem decode_iff {l : Dat} {n : Int} {r : Root} : decode l n = some r ↔ IsRoot l n r := by
  unfold decode
  constructor
  · intro h
    split at h
    · rename_i hx
      rw [← Option.some.inj h]
      exact hx.choose_spec
    · cases h
  · intro h
    have hx : ∃ r, IsRoot l n r := ⟨r, h⟩
    rw [dif_pos hx]
    exact congrArg some (isRoot_same hx.choose_spec h)
theorem decode_none {l : Dat} {n : Int} : decode l n = none ↔ ∀ r, ¬ IsRoot l n r := by
  unfold decode
  constructor
  · intro h r hr
    rw [dif_pos ⟨r, hr⟩] at h
    cases h
  · intro h
    rw [dif_neg (fun ⟨r, hr⟩ => h r hr)]
theorem decode_encode {r : Root} {n : Int} {rest : Dat} (h : (encode r n).2 = 0) : decode ((encode r n).1 ++ rest) n = some r := decode_iff.2 ⟨h, rest, rfl⟩
end Fi
end Go.Proofs.YtoldjbgojjafdaaGreatDoor

namespace Go.Proofs.YtoldjbgojjafdaaGreatDoor
open Go.RowKit
set_option linter.unusedSimpArgs false
set_option linter.unusedVariables false

/-- P1.7, as the walk spells it -/
def mixOf (N : Int) : Int :=
  let a := IntKind.u64.wrap (N + 11400714819323198485)
  let b := IntKind.u64.wrap (bits BinOp.xor IntKind.u64 a (a / 1073741824) * 13787848793156543929)
  let c := IntKind.u64.wrap (bits BinOp.xor IntKind.u64 b (b / 134217728) * 10723151780598845931)
  bits BinOp.xor IntKind.u64 c (c / 2147483648)
theorem byte_at (n i : Nat) (hi : i < 8) : Value.int .u8 ((n : Int) / 2 ^ (8 * i) % 256) = .int .u8 ((Cd.bigByte n (7 - i)).toNat : Int) := by
  congr 1
  unfold Cd.bigByte
  rw [UInt8.toNat_ofNat', show 7 - (7 - i) = i from by omega, show (256 : Nat) ^ i = 2 ^ (8 * i) from by rw [Nat.pow_mul]]
  have : ((n : Int) / 2 ^ (8 * i)) = ((n / 2 ^ (8 * i) : Nat) : Int) := by simp
  rw [this]; omega

/-- eight cells that hold these bytes, and may be written -/
def Row8 (w : World) (g : Nat) (l : List UInt8) : Prop := ∀ j, j < 8 → w.cell? ⟨g, j, none⟩ = some (.int .u8 ((l.getD j 0).toNat : Int)) ∧ w.frozen? ⟨g, j, none⟩ = false
theorem Row8.store {w : World} {g n k : Nat} {x : Value} (h : Row8 w g (Cd.bigPart n (k + 1))) (hk : k < 8) (hx : x = .int .u8 ((Cd.bigByte n k).toNat : Int)) :
    Row8 (w.setCell ⟨g, k, none⟩ x) g (Cd.bigPart n k) := by
  intro j hj
  rw [World.frozen?_setCell]
  refine ⟨?_, (h j hj).2⟩
  rw [Cd.bigPart_get _ _ _ hj]
  by_cases hjk : j = k
  · subst hjk
    rw [World.cell?_setCell_same (h := (h j hj).1), hx, if_neg (by omega)]
  · rw [World.cell?_setCell_other (h := by simp only [ne_eq, Addr.mk.injEq, true_and, and_true]; omega), (h j hj).1, Cd.bigPart_get _ _ _ hj]
    by_cases h1 : j < k
    · rw [if_pos h1, if_pos (by omega)]
    · rw [if_neg h1, if_neg (by omega)]
theorem Row8.conv {w : World} {g c : Nat} {l : List UInt8} (h : Row8 w g l) (hl : l.length = 8) : (convert 173 9 (.slice (some ⟨g, 0, none⟩) 8 c)).run Tryz.prog w = .ok (.string (Cd.bs l)) w := by
  have := run_convert_bytes_back (P := Tryz.prog) w 173 9 5 ⟨g, 0, none⟩ c l Tryz.underlying173 Tryz.underlying5 Tryz.underlying9 (fun j hj => by
    have := (h j (by omega)).1
    rw [List.getD_eq_getElem?_getD, List.getElem?_eq_getElem hj] at this
    have hp : (⟨g, 0, none⟩ : Addr).add j = ⟨g, j, none⟩ := by unfold Addr.add; split <;> simp_all
    rw [hp]; simpa using this)
  rwa [hl] at this
theorem Row8.new (w : World) (n : Nat) (T : TypeId) : Row8 (w.alloc (.cells #[.int .u8 0, .int .u8 0, .int .u8 0, .int .u8 0, .int .u8 0, .int .u8 0, .int .u8 0, .int .u8 0] T)) w.heap.size (Cd.bigPart n 8) := by
  intro j hj
  rw [Cd.bigPart_zero]
  match j, hj with
  | 0, _ => exact ⟨by go_simp, by go_simp⟩
  | 1, _ => exact ⟨by go_simp, by go_simp⟩
  | 2, _ => exact ⟨by go_simp, by go_simp⟩
  | 3, _ => exact ⟨by go_simp, by go_simp⟩
  | 4, _ => exact ⟨by go_simp, by go_simp⟩
  | 5, _ => exact ⟨by go_simp, by go_simp⟩
  | 6, _ => exact ⟨by go_simp, by go_simp⟩
  | 7, _ => exact ⟨by go_simp, by go_simp⟩

set_option maxRecDepth 100000 in
set_option maxHeartbeats 1000000 in
theorem keyIc_any (M : Int) (w : World) (h0 : -9223372036854775808 ≤ M) (h1 : M ≤ 9223372036854775807) :
    Calls Tryz.prog 284 #[.int .i64 M] w fun e w' => e = .returned (.string (Cd.bs (Cd.big (Cd.turn M)))) ∧ Below w.heap.size w w' := by
  have ht := Cd.turn_eq M h0 h1
  have hl := Cd.turn_lt M h1
  generalize Cd.turn M = n at *
  have HN := Lib.hid hl
  clear hl
  go_enter Tryz.func284, Tryz.ntmps284
  go_wp2_with fail
  go_loopw [9] (fun i wr => ∃ k : Nat, k ≤ 8 ∧ i = .int .i64 (8 - (k : Int)) ∧ Row8 wr w.heap.size (Cd.bigPart n k) ∧ Below w.heap.size w wr) (fun i _ => (8 - intOf i).toNat)
  case atStart => exact ⟨8, Nat.le_refl _, by simp, Row8.new _ _ _, (Below.refl _ _).alloc (Nat.le_refl _) _⟩
  case round =>
    obtain ⟨k, hk, rfl, hr, hb⟩ := hrel
    cases k with
    | zero =>
      have hcv := hr.conv (c := 8) (Cd.bigPart_len _ _)
      go_wp2
      go_ret
      exact ⟨by rw [Cd.bigPart_done]; rfl, hb⟩
    | succ k =>
      obtain ⟨i, rfl, hi8⟩ : ∃ i : Nat, k = 7 - i ∧ i < 8 := ⟨7 - k, by omega, by omega⟩
      have hk8 : 7 - i < 8 := by omega
      have hc := (hr (7 - i) hk8).1
      have hf := (hr (7 - i) hk8).2
      have hi2 : (8 : Int) - ((7 - i + 1 : Nat) : Int) = (i : Int) := by omega
      rw [hi2]
      clear hi2
      have HR := Lib.hid hr
      clear hr
      go_wp2
      go_roundw
      case rel => exact ⟨7 - i, by omega, by congr 1; omega, HR.out.store hk8 (byte_at n i hi8), hb.setCell (p := ⟨w.heap.size, 7 - i, none⟩) (Nat.le_refl _) _⟩
      case measure => first | (simp [intOf]; done) | (simp [intOf]; omega)

set_option maxRecDepth 100000 in
set_option maxHeartbeats 1000000 in
theorem mixc_any (N : Int) (w : World) (h0 : 0 ≤ N) (h1 : N ≤ 18446744073709551615) :
    Calls Tryz.prog 179 #[.int .u64 N] w fun e w' => e = .returned (.int .u64 (mixOf N)) ∧ w = w' := by
  go_enter Tryz.func179, Tryz.ntmps179
  go_wp2
  go_ret
  exact ⟨rfl, rfl⟩

end Go.Proofs.YtoldjbgojjafdaaGreatDoor
namespace Go.Proofs.YtoldjbgojjafdaaGreatDoor
open Go.RowKit
set_option linter.unusedSimpArgs false
set_option linter.unusedVariables false

theorem putUc_at (N : Int) (n : Nat) (w : World) (h : N = n) (h1 : n < 18446744073709551616) :
    Calls Tryz.prog 84 #[.int .u64 N] w fun e w' => e = .returned (.string (Cd.bs (Cd.putU n))) ∧ Below w.heap.size w w' := by
  have := putUc_any N w (by omega) (by omega)
  rwa [show N.toNat = n from by omega] at this

end Go.Proofs.YtoldjbgojjafdaaGreatDoor
/-
  The document's answers on roots (tapestryref04): Name, Takes, May.
-/
namespace Go.Proofs.YtoldjbgojjafdaaGreatDoor
open Go.RowKit
set_option linter.unusedSimpArgs false
set_option linter.unusedVariables false

namespace Fi
open Op (bytesLess)
def inI64 (n : Int) : Prop := -9223372036854775808 ≤ n ∧ n ≤ 9223372036854775807
/-- a slice of numbers, in blocks below B -/
def Ints (B : Nat) (W : World) (v : Value) (l : List Int) : Prop :=
  ∃ (a : Option Addr) (cap b off : Nat), v = .slice a l.length cap ∧ (0 < l.length → a = some ⟨b, off, none⟩ ∧ b < B) ∧ ∀ j (h : j < l.length), W.cell? ⟨b, off + j, none⟩ = some (.int .i64 l[j])
theorem Ints.below {B : Nat} {W W' : World} {v : Value} {l : List Int} (h : Ints B W v l) (hb : Below B W W') : Ints B W' v l := by
  obtain ⟨a, cap, b, off, h1, h2, h3⟩ := h
  exact ⟨a, cap, b, off, h1, h2, fun j hj => (hb.cell (p := ⟨b, off + j, none⟩) (h2 (by omega)).2).trans (h3 j hj)⟩
/-- a slice of files, with the values of their lists of blocks -/
def Files (B : Nat) (W : World) (v : Value) (L : List (File × Value)) : Prop :=
  ∃ (a : Option Addr) (cap b off : Nat), v = .slice a L.length cap ∧ (0 < L.length → a = some ⟨b, off, none⟩ ∧ b < B) ∧ ∀ j (h : j < L.length),
    W.cell? ⟨b, off + j * 3, none⟩ = some (.string (Cd.bs L[j].1.name)) ∧ W.cell? ⟨b, off + j * 3 + 1, none⟩ = some (.int .i64 L[j].1.size) ∧ W.cell? ⟨b, off + j * 3 + 2, none⟩ = some L[j].2 ∧ Ints B W L[j].2 L[j].1.blocks
theorem Files.below {B : Nat} {W W' : World} {v : Value} {L : List (File × Value)} (h : Files B W v L) (hb : Below B W W') : Files B W' v L := by
  obtain ⟨a, cap, b, off, h1, h2, h3⟩ := h
  refine ⟨a, cap, b, off, h1, h2, fun j hj => ?_⟩
  have hl := (h2 (by omega)).2
  obtain ⟨g1, g2, g3, g4⟩ := h3 j hj
  exact ⟨(hb.cell (p := ⟨b, off + j * 3, none⟩) hl).trans g1, (hb.cell (p := ⟨b, off + j * 3 + 1, none⟩) hl).trans g2, (hb.cell (p := ⟨b, off + j * 3 + 2, none⟩) hl).trans g3, g4.below hb⟩
/-- bounds of what came in -/
structure FileIn (f : File) : Prop where
  name : f.name.length ≤ 1048576
  size : inI64 f.size
  many : f.blocks.length ≤ 1048576
  blocks : ∀ b ∈ f.blocks, inI64 b

theorem bl_total : ∀ p n : Dat, bytesLess p n = !(bytesLess n p || n == p)
  | [], [] => by simp [bytesLess]
  | [], b :: y => by simp [bytesLess]
  | a :: x, [] => by simp [bytesLess]
  | a :: x, b :: y => by
    have ih := bl_total x y
    have e1 : (a < b) ↔ a.toNat < b.toNat := UInt8.lt_iff_toNat_lt
    have e2 : (b < a) ↔ b.toNat < a.toNat := UInt8.lt_iff_toNat_lt
    have e3 : (a = b) ↔ a.toNat = b.toNat := UInt8.toNat_inj.symm
    have e4 : (b = a) ↔ b.toNat = a.toNat := UInt8.toNat_inj.symm
    rw [Cd.bl_cons, Cd.bl_cons, ih]
    have e5 : ((b :: y : Dat) == a :: x) = (decide (a.toNat = b.toNat) && (y == x)) := by
      rw [Bool.eq_iff_iff]; simp [e4]; intro _; omega
    rw [e5]
    by_cases h1 : a.toNat < b.toNat
    · have h2 : ¬ b.toNat < a.toNat := by omega
      have h3 : ¬ a.toNat = b.toNat := by omega
      have h4 : ¬ b.toNat = a.toNat := by omega
      simp [h1, h2, h3, h4]
    · by_cases h3 : a.toNat = b.toNat
      · simp [h3]
      · have h2 : b.toNat < a.toNat := by omega
        simp [h1, h2, h3]

/-- which blocks are taken, as a row -/
def marks (N : Nat) (t : List Int) : List Value := (List.range N).map fun (i : Nat) => Value.bool (decide ((i : Int) ∈ t))
theorem marks_none (N : Nat) : marks N [] = List.replicate N (.bool false) := by
  unfold marks; apply List.ext_getElem <;> simp
theorem marks_get (N : Nat) (t : List Int) (i : Nat) (h : i < N) : (marks N t)[i]? = some (.bool (decide ((i : Int) ∈ t))) := by simp [marks, h]
theorem marks_set (N : Nat) (t : List Int) (i : Nat) : (marks N t).set i (.bool true) = marks N ((i : Int) :: t) := by
  apply List.ext_getElem?
  intro j
  by_cases hj : j < N
  · rw [List.getElem?_set, marks_get N t j hj, marks_get N _ j hj]
    by_cases hij : i = j
    · subst hij; simp [marks, hj]
    · rw [if_neg hij]
      have : ¬ (j : Int) = (i : Int) := by omega
      simp [this]
  · rw [List.getElem?_eq_none (by simp [marks]; omega), List.getElem?_eq_none (by simp [marks]; omega)]
def prevOf (L : List File) : Nat → Option Dat
  | 0 => none
  | k + 1 => (L[k]?).map (·.name)
theorem takes_in {n : Int} (h0 : 0 ≤ n) : takes n = n / 256 + if 0 < n % 256 then 1 else 0 := rfl
end Fi

theorem belowN {B : Nat} {a w : World} (h : Below B a w) (n : Nat) : Below B a (w.drewN n) := ⟨h.os, h.tape, h.output, h.size, h.block⟩

end Go.Proofs.YtoldjbgojjafdaaGreatDoor

/-
  Plain mathematics of P4.1: reading a root, thing by thing; what is put again and is the same was the root's own bytes. No program is named here.
-/
namespace Go.Proofs.YtoldjbgojjafdaaGreatDoor
namespace Fi

/-- what is left, and whether there was a fault -/
abbrev TkS := Dat × Bool
def tkNum (most : Nat) (s : TkS) : Nat × TkS :=
  if s.2 = true ∨ (Cd.takeU s.1).2.2 ≠ 0 ∨ most < (Cd.takeU s.1).1 then (0, (s.1, true)) else ((Cd.takeU s.1).1, (s.1.drop (Cd.takeU s.1).2.1, s.2))
def tkText (most : Nat) (s : TkS) : Dat × TkS :=
  if s.2 = true ∨ (Cd.takeT s.1 most).2.2 ≠ 0 then ([], (s.1, true)) else ((Cd.takeT s.1 most).1, (s.1.drop (Cd.takeT s.1 most).2.1, s.2))
def tkRunsGo : Nat → List Int → TkS → List Int × TkS
  | 0, bl, s => (bl, s)
  | k + 1, bl, s => tkRunsGo k (bl ++ runOf (((tkNum 16384 s).1 : Int), (tkNum (16384 - bl.length) (tkNum 16384 s).2).1)) (tkNum (16384 - bl.length) (tkNum 16384 s).2).2
def tkRuns (s : TkS) : List Int × TkS := tkRunsGo (tkNum s.1.length s).1 [] (tkNum s.1.length s).2
def tkFile (s : TkS) : File × TkS :=
  (⟨(tkText 32 s).1, ((tkNum 9223372036854775807 (tkText 32 s).2).1 : Int), (tkRuns (tkNum 9223372036854775807 (tkText 32 s).2).2).1⟩, (tkRuns (tkNum 9223372036854775807 (tkText 32 s).2).2).2)
def tkFiles : Nat → List File → TkS → List File × TkS
  | 0, fs, s => (fs, s)
  | k + 1, fs, s => tkFiles k (fs ++ [(tkFile s).1]) (tkFile s).2
def tkCount (s : TkS) : Nat × TkS := tkNum 64 (tkNum 4611686018427387904 s).2
def tkAll (s : TkS) : List File × TkS := tkFiles (tkCount s).1 [] (tkCount s).2
def tkRoot (l : Dat) : Root := if (tkAll (l, false)).2.2 = true then ⟨0, []⟩ else ⟨(tkNum 4611686018427387904 (l, false)).1, (tkAll (l, false)).1⟩
/-- DecodeRoot, as it is built -/
def decR (l : Dat) (n : Int) : Option Root :=
  if (Fr.take l).2.2 ≠ 0 then none else
  if (encode (tkRoot (Fr.take l).1.2) n).2 = 0 ∧ (encode (tkRoot (Fr.take l).1.2) n).1 = l.take (Fr.take l).2.1 then some (tkRoot (Fr.take l).1.2) else none

theorem putU_ne (n : Nat) : 1 ≤ (Cd.putU n).length := by
  rw [Cd.putU]; split <;> simp
theorem tkNum_put {most a : Nat} (x : Dat) (ha : a ≤ most) (h : a < 18446744073709551616) : tkNum most (Cd.putU a ++ x, false) = (a, (x, false)) := by
  unfold tkNum
  simp only [Cd.takeU_putU a x h]
  rw [if_neg (by simp; omega)]
  simp
theorem tkText_put {most : Nat} {s : Dat} (x : Dat) (hs : s.length ≤ most) (h : most < 18446744073709551616) : tkText most (Cd.putT s ++ x, false) = (s, (x, false)) := by
  have hu : Cd.takeU (Cd.putT s ++ x) = (s.length, (Cd.putU s.length).length, 0) := by
    unfold Cd.putT
    rw [List.append_assoc, Cd.takeU_putU _ _ (by omega)]
  have ht : Cd.takeT (Cd.putT s ++ x) (most : Int) = (s, (Cd.putU s.length).length + s.length, 0) := by
    rw [Cd.takeT_text hu (by simpa using hs) (by unfold Cd.putT; simp)]
    unfold Cd.putT
    rw [List.append_assoc, List.drop_left' rfl, List.take_left' rfl]
  unfold tkText
  simp only [ht]
  rw [if_neg (by simp)]
  unfold Cd.putT
  rw [← List.length_append, List.drop_left' rfl]
theorem runOf_len (p : Int × Nat) : (runOf p).length = p.2 := by simp [runOf]
theorem tkRunsGo_put : ∀ (L : List (Int × Nat)) (bl : List Int) (x : Dat), (∀ p ∈ L, 0 ≤ p.1 ∧ p.1 ≤ 16384) → bl.length + (L.flatMap runOf).length ≤ 16384 → tkRunsGo L.length bl (L.flatMap runB ++ x, false) = (bl ++ L.flatMap runOf, (x, false))
  | [], bl, x, _, _ => by simp [tkRunsGo]
  | p :: r, bl, x, hp, hl => by
    rw [List.flatMap_cons, List.length_append, runOf_len] at hl
    obtain ⟨h0, h1⟩ := hp p (List.mem_cons_self ..)
    have e1 : tkNum 16384 ((p :: r).flatMap runB ++ x, false) = (p.1.toNat, (Cd.putU p.2 ++ (r.flatMap runB ++ x), false)) := by
      rw [List.flatMap_cons]
      unfold runB
      rw [List.append_assoc, List.append_assoc]
      exact tkNum_put _ (by omega) (by omega)
    have e2 : tkNum (16384 - bl.length) (Cd.putU p.2 ++ (r.flatMap runB ++ x), false) = (p.2, (r.flatMap runB ++ x, false)) := tkNum_put _ (by omega) (by omega)
    rw [List.length_cons, tkRunsGo, e1]
    simp only [e2]
    rw [show ((p.1.toNat : Nat) : Int) = p.1 by omega]
    rw [tkRunsGo_put r (bl ++ runOf (p.1, p.2)) x (fun q hq => hp q (List.mem_cons_of_mem _ hq)) (by rw [List.length_append, runOf_len]; simp only; omega)]
    rw [List.flatMap_cons, List.append_assoc]
theorem runB_pos (p : Int × Nat) : 2 ≤ (runB p).length := by
  unfold runB
  rw [List.length_append]
  have := putU_ne p.1.toNat
  have := putU_ne p.2
  omega
theorem flat_pos (L : List (Int × Nat)) : L.length ≤ (L.flatMap runB).length := by
  induction L with
  | nil => simp
  | cons p r ih => rw [List.flatMap_cons, List.length_append, List.length_cons]; have := runB_pos p; omega
theorem runs_first (l : List Int) (h : ∀ b ∈ l, 0 ≤ b ∧ b ≤ 16384) : ∀ p ∈ runs l, 0 ≤ p.1 ∧ p.1 ≤ 16384 := by
  induction hn : l.length using Nat.strongRecOn generalizing l with
  | _ n ih =>
    match l, hn with
    | [], _ => intro p hp; rw [runs] at hp; cases hp
    | y :: r, hn =>
      rw [runs_cons]
      intro p hp
      rcases List.mem_cons.1 hp with rfl | hp
      · exact h y (List.mem_cons_self ..)
      · simp at hn
        exact ih (r.drop (runLen y r)).length (by simp; omega) _ (fun b hb => h b (List.mem_cons_of_mem _ (List.mem_of_mem_drop hb))) rfl p hp
theorem tkRuns_put (l : List Int) (x : Dat) (h : ∀ b ∈ l, 0 ≤ b ∧ b ≤ 16384) (hl : l.length ≤ 16384) : tkRuns (runBytes l ++ x, false) = (l, (x, false)) := by
  unfold tkRuns runBytes
  have hr := runs_len l
  have hp := flat_pos (runs l)
  have e1 : tkNum (Cd.putU (runs l).length ++ (runs l).flatMap runB ++ x).length (Cd.putU (runs l).length ++ (runs l).flatMap runB ++ x, false) = ((runs l).length, ((runs l).flatMap runB ++ x, false)) := by
    have hle : (runs l).length ≤ (Cd.putU (runs l).length ++ (runs l).flatMap runB ++ x).length := by rw [List.length_append, List.length_append]; omega
    generalize (Cd.putU (runs l).length ++ (runs l).flatMap runB ++ x).length = m at *
    rw [List.append_assoc]
    exact tkNum_put _ hle (by omega)
  simp only [e1]
  rw [tkRunsGo_put (runs l) [] x (runs_first l h) (by rw [runs_expand]; simpa using hl), runs_expand]
  rfl
/-- a file that a root may have, as it is read -/
structure FRd (f : File) : Prop where
  name : f.name.length ≤ 32
  size : 0 ≤ f.size ∧ f.size ≤ 9223372036854775807
  blocks : ∀ b ∈ f.blocks, 0 ≤ b ∧ b ≤ 16384
  many : f.blocks.length ≤ 16384
theorem tkFile_put (f : File) (x : Dat) (h : FRd f) : tkFile (fileBytes f ++ x, false) = (f, (x, false)) := by
  unfold tkFile fileBytes
  have hs := h.size
  have e1 : tkText 32 (Cd.putT f.name ++ Cd.putU f.size.toNat ++ runBytes f.blocks ++ x, false) = (f.name, (Cd.putU f.size.toNat ++ (runBytes f.blocks ++ x), false)) := by
    rw [List.append_assoc, List.append_assoc]
    exact tkText_put _ h.name (by omega)
  have e2 : tkNum 9223372036854775807 (Cd.putU f.size.toNat ++ (runBytes f.blocks ++ x), false) = (f.size.toNat, (runBytes f.blocks ++ x, false)) := tkNum_put _ (by omega) (by omega)
  simp only [e1, e2, tkRuns_put f.blocks x h.blocks h.many]
  rw [show ((f.size.toNat : Nat) : Int) = f.size by omega]
theorem tkFiles_put : ∀ (L fs : List File) (x : Dat), (∀ f ∈ L, FRd f) → tkFiles L.length fs (L.flatMap fileBytes ++ x, false) = (fs ++ L, (x, false))
  | [], fs, x, _ => by simp [tkFiles]
  | f :: r, fs, x, h => by
    rw [List.length_cons, tkFiles, List.flatMap_cons, List.append_assoc, tkFile_put f _ (h f (List.mem_cons_self ..))]
    simp only
    rw [tkFiles_put r (fs ++ [f]) x (fun q hq => h q (List.mem_cons_of_mem _ hq)), List.append_assoc]
    rfl
theorem tkRoot_put (r : Root) (hg : r.gen ≤ 4611686018427387904) (hl : r.files.length ≤ 64) (h : ∀ f ∈ r.files, FRd f) : tkRoot (rootLoad r) = r := by
  have e1 : tkNum 4611686018427387904 (rootLoad r, false) = (r.gen, (Cd.putU r.files.length ++ (r.files.flatMap fileBytes ++ []), false)) := by
    unfold rootLoad
    rw [List.append_assoc, List.append_nil]
    exact tkNum_put _ hg (by omega)
  have e2 : tkCount (rootLoad r, false) = (r.files.length, (r.files.flatMap fileBytes ++ [], false)) := by
    unfold tkCount
    rw [e1]
    exact tkNum_put _ hl (by omega)
  have e3 : tkAll (rootLoad r, false) = (r.files, ([], false)) := by
    unfold tkAll
    rw [e2]
    have := tkFiles_put r.files [] [] h
    simpa using this
  unfold tkRoot
  rw [e3, e1]
  rfl
theorem frd_of_may {r : Root} {m : Int} (hm : m ≤ 16384) (h : may r m = true) : ∀ f ∈ r.files, FRd f := by
  obtain ⟨g1, g2, g3, hf⟩ := may_in h
  have hgo : mayGo m r.files none [] = true := by
    unfold may at h
    simp only [Bool.and_eq_true] at h
    exact h.2
  intro f hff
  obtain ⟨k1, k2, k3⟩ := hf f hff
  obtain ⟨l1, l2⟩ := mayGo_len hm hgo List.nodup_nil (fun b hb => by cases hb) f hff
  refine ⟨k3, ⟨k2, ?_⟩, fun b hb => by have := k1 b hb; omega, l1⟩
  unfold takes at l2
  omega
theorem decR_decode (l : Dat) (n : Int) : decR l n = decode l n := by
  have key : ∀ r, IsRoot l n r → decR l n = some r := fun r h => by
    obtain ⟨h1, t, h2⟩ := h
    obtain ⟨a1, b1, c1, d1⟩ := encode_ok h1
    have ft := Fr.take_put (c := 1) (l := rootLoad r) (r := t) (by decide) (put_load b1)
    rw [← d1, h2] at ft
    have hm := may_in a1
    have hr := tkRoot_put r hm.2.1 hm.2.2.1 (frd_of_may (Int.min_le_right _ _) a1)
    unfold decR
    simp only [ft, hr]
    rw [if_neg (by simp), if_pos ⟨h1, by rw [← h2, List.take_left' rfl]⟩]
  cases hd : decode l n with
  | some r => exact key r (decode_iff.1 hd)
  | none =>
    have hn := decode_none.1 hd
    unfold decR
    split
    · rfl
    · split
      · rename_i h
        exact absurd ⟨h.1, by rw [h.2]; exact List.take_prefix _ _⟩ (hn _)
      · rfl

/-! ### bounds of what is read, whatever it is -/
theorem tkNum_le (most : Nat) (s : TkS) : (tkNum most s).1 ≤ most := by
  unfold tkNum
  split
  · exact Nat.zero_le _
  · rename_i h
    simp only
    have : ¬ most < (Cd.takeU s.1).1 := fun hh => h (.inr (.inr hh))
    omega
theorem tkNum_len (most : Nat) (s : TkS) : (tkNum most s).2.1.length ≤ s.1.length := by
  unfold tkNum
  split
  · exact Nat.le_refl _
  · simp
theorem takeT_len (l : Dat) (most : Nat) : (Cd.takeT l most).1.length ≤ most := by
  unfold Cd.takeT
  split
  · simp
  · split
    · simp
    · split
      · simp
      · rename_i h1 h2 h3
        simp at h2 h3 ⊢
        omega
theorem tkText_le (most : Nat) (s : TkS) : (tkText most s).1.length ≤ most := by
  unfold tkText
  split
  · simp
  · exact takeT_len _ _
theorem tkText_len (most : Nat) (s : TkS) : (tkText most s).2.1.length ≤ s.1.length := by
  unfold tkText
  split
  · exact Nat.le_refl _
  · simp
theorem tkRunsGo_in : ∀ (k : Nat) (bl : List Int) (s : TkS), bl.length ≤ 16384 → (∀ b ∈ bl, 0 ≤ b ∧ b ≤ 32768) → (tkRunsGo k bl s).1.length ≤ 16384 ∧ (∀ b ∈ (tkRunsGo k bl s).1, 0 ≤ b ∧ b ≤ 32768) ∧ (tkRunsGo k bl s).2.1.length ≤ s.1.length
  | 0, bl, s, h1, h2 => ⟨h1, h2, Nat.le_refl _⟩
  | k + 1, bl, s, h1, h2 => by
    rw [tkRunsGo]
    have a1 := tkNum_le 16384 s
    have a2 := tkNum_le (16384 - bl.length) (tkNum 16384 s).2
    have a3 := tkNum_len 16384 s
    have a4 := tkNum_len (16384 - bl.length) (tkNum 16384 s).2
    have := tkRunsGo_in k (bl ++ runOf (((tkNum 16384 s).1 : Int), (tkNum (16384 - bl.length) (tkNum 16384 s).2).1)) (tkNum (16384 - bl.length) (tkNum 16384 s).2).2 (by rw [List.length_append, runOf_len]; simp only; omega) (fun b hb => by
      rcases List.mem_append.1 hb with hb | hb
      · exact h2 b hb
      · unfold runOf at hb
        obtain ⟨j, hj, rfl⟩ := List.mem_map.1 hb
        have := List.mem_range.1 hj
        simp only at this ⊢
        omega)
    exact ⟨this.1, this.2.1, by omega⟩
theorem tkRuns_in (s : TkS) : (tkRuns s).1.length ≤ 16384 ∧ (∀ b ∈ (tkRuns s).1, 0 ≤ b ∧ b ≤ 32768) ∧ (tkRuns s).2.1.length ≤ s.1.length := by
  unfold tkRuns
  have h := tkRunsGo_in (tkNum s.1.length s).1 [] (tkNum s.1.length s).2 (by simp) (fun b hb => by cases hb)
  have := tkNum_len s.1.length s
  exact ⟨h.1, h.2.1, by omega⟩
theorem tkFile_in (s : TkS) : FileIn (tkFile s).1 ∧ (tkFile s).2.1.length ≤ s.1.length := by
  unfold tkFile
  have a := tkText_le 32 s
  have b := tkNum_le 9223372036854775807 (tkText 32 s).2
  obtain ⟨c, d, e⟩ := tkRuns_in (tkNum 9223372036854775807 (tkText 32 s).2).2
  have f := tkText_len 32 s
  have g := tkNum_len 9223372036854775807 (tkText 32 s).2
  exact ⟨⟨by simp only; omega, ⟨by simp only; omega, by simp only; omega⟩, by simp only; omega, fun x hx => by have := d x hx; exact ⟨by omega, by omega⟩⟩, by simp only; omega⟩
theorem tkFiles_in : ∀ (k : Nat) (fs : List File) (s : TkS), (∀ f ∈ fs, FileIn f) → (∀ f ∈ (tkFiles k fs s).1, FileIn f) ∧ (tkFiles k fs s).1.length = fs.length + k
  | 0, fs, s, h => ⟨h, rfl⟩
  | k + 1, fs, s, h => by
    rw [tkFiles]
    have := tkFiles_in k (fs ++ [(tkFile s).1]) (tkFile s).2 (fun f hf => by
      rcases List.mem_append.1 hf with hf | hf
      · exact h f hf
      · simp at hf; subst hf; exact (tkFile_in s).1)
    exact ⟨this.1, by rw [this.2, List.length_append, List.length_singleton]; omega⟩
theorem tkRoot_in (l : Dat) : (tkRoot l).gen ≤ 4611686018427387904 ∧ (tkRoot l).files.length ≤ 64 ∧ ∀ f ∈ (tkRoot l).files, FileIn f := by
  unfold tkRoot
  split
  · exact ⟨by simp, by simp, fun f hf => by cases hf⟩
  · have h := tkFiles_in (tkCount (l, false)).1 [] (tkCount (l, false)).2 (fun f hf => by cases hf)
    have h2 := tkNum_le 64 (tkNum 4611686018427387904 (l, false)).2
    refine ⟨tkNum_le _ _, ?_, h.1⟩
    show (tkAll (l, false)).1.length ≤ 64
    unfold tkAll
    rw [h.2]
    unfold tkCount
    simp only [List.length_nil]
    omega
end Fi
end Go.Proofs.YtoldjbgojjafdaaGreatDoor
