import Derived.LoopTactic
import Derived.BigQuiet
import Derived.Deep.QuietTactic
import Derived.RangeFuncBox
import Derived.RangeFuncLeaves
import Derived.RangeFuncNested
import Derived.Shelf.Abstract
import Derived.WalkKit
import Derived.OwnWalkIn
import Derived.TacticsInMore
import Derived.LoopNIn
import Derived.LoopIn
import Derived.Lib.AppendStr
import Derived.Lib.BufStepsIn
import Derived.Deep.RegionWith
import Derived.Deep.DeepCutAuto
import Derived.Deep.Cut
import Derived.Deep.CutRange
import Derived.Deep.LoopGhost
import Derived.StillTailTactics
import Derived.Test.YthcllaombabpbaaPart1
/-
  P6.1, P6.2: the order of versions, towers' heights: plain, the document's answers (tapestryref06), the law MemtableOrder over what the program owes.
-/
namespace Go.Proofs.Ythcllaombabpbaa
open Go.RowKit
set_option linter.unusedSimpArgs false
set_option linter.unusedVariables false
namespace Mt
open Op (bytesLess)
/-- a version: its key, its sequence number, whether it takes away, its value -/
structure Ver where
  key : List UInt8
  seq : Int
  del : Bool
  val : List UInt8
def lessB (a b : Ver) : Bool := if a.key = b.key then decide (b.seq < a.seq) else bytesLess a.key b.key
def placeB (a b : Ver) : Bool := decide (a.key = b.key ∧ a.seq = b.seq)
theorem less_total (a b : Ver) : (lessB a b && lessB b a) = false ∧ (lessB a b || lessB b a) = !placeB a b := by
  unfold lessB placeB
  by_cases h : a.key = b.key
  · rw [if_pos h, if_pos h.symm]
    by_cases h1 : a.seq < b.seq
    · have h2 : ¬ b.seq < a.seq := by omega
      have h3 : ¬ a.seq = b.seq := by omega
      simp [h, h1, h2, h3]
    · by_cases h2 : b.seq < a.seq
      · have h3 : ¬ a.seq = b.seq := by omega
        simp [h, h1, h2, h3]
      · have h3 : a.seq = b.seq := by omega
        simp [h, h3]
  · rw [if_neg h, if_neg (fun e => h e.symm)]
    have ht := Fi.bl_total a.key b.key
    have hne : (b.key == a.key) = false := by simpa using fun e => h e.symm
    rw [hne, Bool.or_false] at ht
    rw [ht]
    have : decide (a.key = b.key ∧ a.seq = b.seq) = false := by simp [h]
    rw [this]
    cases bytesLess b.key a.key <;> simp
/-- P6.2 -/
def hgtGo : Nat → Nat → Int → Nat
  | 0, n, _ => n
  | f + 1, n, x => if n < 8 ∧ x % 4 = 0 then hgtGo f (n + 1) (x / 4) else n
def seedOf (seed seq : Int) : Int := mixOf (bits BinOp.xor IntKind.u64 seed (mixOf seq))
def height (seed seq : Int) : Nat := hgtGo 7 1 (seedOf seed seq)
def VerIn (a : Ver) : Prop := a.key.length ≤ 1048576 ∧ a.val.length ≤ 1048576 ∧ 0 ≤ a.seq ∧ a.seq < 18446744073709551616
/-- however long -/
def VerW (a : Ver) : Prop := a.key.length ≤ 140737488351232 ∧ a.val.length ≤ 140737488351232 ∧ 0 ≤ a.seq ∧ a.seq < 18446744073709551616
theorem VerIn.wide {a : Ver} (h : VerIn a) : VerW a := ⟨Nat.le_trans h.1 (by omega), Nat.le_trans h.2.1 (by omega), h.2.2.1, h.2.2.2⟩
def verV (a : Ver) : Value := .agg #[.string (Cd.bs a.key), .int .u64 a.seq, .bool a.del, .string (Cd.bs a.val)]

set_option maxRecDepth 100000 in
set_option maxHeartbeats 2000000 in
theorem lessR_any (a b : Ver) (w : World) (ha : VerW a) (hb : VerW b) :
    Calls Try.prog 15 #[verV a, verV b] w fun e w' => e = .returned (.bool (lessB a b)) ∧ Below w.heap.size w w' := by
  obtain ⟨ak, aq, ad, av⟩ := a
  obtain ⟨bk, bq, bd, bv⟩ := b
  unfold verV
  simp only
  obtain ⟨_, _, _, _⟩ := ha
  obtain ⟨_, _, _, _⟩ := hb
  by_cases h : ak = bk
  · subst h
    by_cases h1 : bq < aq
    · have e : lessB ⟨ak, aq, ad, av⟩ ⟨ak, bq, bd, bv⟩ = true := by simp [lessB, h1]
      rw [e]
      clear e
      go_enter Try.func15, Try.ntmps15
      go_wp2_with fail
      go_ret
      exact ⟨rfl, ((Below.refl _ _).alloc (Nat.le_refl _) _).alloc (by simp) _⟩
    · have e : lessB ⟨ak, aq, ad, av⟩ ⟨ak, bq, bd, bv⟩ = false := by simp [lessB, h1]
      have h2 : decide (bq < aq) = false := decide_eq_false h1
      have H2 := Lib.hid h2
      rw [e]
      clear e
      go_enter Try.func15, Try.ntmps15
      go_wp2_with fail
      go_ret
      exact ⟨by rw [← H2.out]; first | rfl | (rw [H2.out]; rfl), ((Below.refl _ _).alloc (Nat.le_refl _) _).alloc (by simp) _⟩
  · have hne : (ak == bk) = false := by simpa using h
    have e : lessB ⟨ak, aq, ad, av⟩ ⟨bk, bq, bd, bv⟩ = bytesLess ak bk := by simp [lessB, h]
    rw [e]
    clear e h
    go_enter Try.func15, Try.ntmps15
    go_wp2_with fail
    go_ret
    exact ⟨rfl, ((Below.refl _ _).alloc (Nat.le_refl _) _).alloc (by simp) _⟩

set_option maxRecDepth 100000 in
set_option maxHeartbeats 2000000 in
theorem placeR_any (a b : Ver) (w : World) (ha : VerW a) (hb : VerW b) :
    Calls Try.prog 27 #[verV a, verV b] w fun e w' => e = .returned (.bool (placeB a b)) ∧ Below w.heap.size w w' := by
  obtain ⟨ak, aq, ad, av⟩ := a
  obtain ⟨bk, bq, bd, bv⟩ := b
  unfold verV
  simp only
  obtain ⟨_, _, _, _⟩ := ha
  obtain ⟨_, _, _, _⟩ := hb
  by_cases h : ak = bk
  · subst h
    by_cases h1 : aq = bq
    · subst h1
      have e : placeB ⟨ak, aq, ad, av⟩ ⟨ak, aq, bd, bv⟩ = true := by simp [placeB]
      rw [e]
      clear e
      go_enter Try.func27, Try.ntmps27
      go_wp2_with fail
      go_ret
      exact ⟨rfl, ((Below.refl _ _).alloc (Nat.le_refl _) _).alloc (by simp) _⟩
    · have h2 : (aq == bq) = false := by simpa using h1
      have e : placeB ⟨ak, aq, ad, av⟩ ⟨ak, bq, bd, bv⟩ = false := by simp [placeB, h1]
      rw [e]
      clear e h1
      go_enter Try.func27, Try.ntmps27
      go_wp2_with fail
      go_ret
      exact ⟨rfl, ((Below.refl _ _).alloc (Nat.le_refl _) _).alloc (by simp) _⟩
  · have hne : (ak == bk) = false := by simpa using h
    have e : placeB ⟨ak, aq, ad, av⟩ ⟨bk, bq, bd, bv⟩ = false := by simp [placeB, h]
    rw [e]
    clear e h
    go_enter Try.func27, Try.ntmps27
    go_wp2_with fail
    go_ret
    exact ⟨rfl, ((Below.refl _ _).alloc (Nat.le_refl _) _).alloc (by simp) _⟩

theorem xor_in {a b : Int} (ha : 0 ≤ a ∧ a < 18446744073709551616) (hb : 0 ≤ b ∧ b < 18446744073709551616) : 0 ≤ bits BinOp.xor IntKind.u64 a b ∧ bits BinOp.xor IntKind.u64 a b < 18446744073709551616 := by
  obtain ⟨m, rfl⟩ := Int.eq_ofNat_of_zero_le ha.1
  obtain ⟨n, rfl⟩ := Int.eq_ofNat_of_zero_le hb.1
  rw [u64_xor_nat m n (by omega) (by omega)]
  have := Nat.xor_lt_two_pow (x := m) (y := n) (n := 64) (by omega) (by omega)
  omega
theorem mix_in (N : Int) : 0 ≤ mixOf N ∧ mixOf N < 18446744073709551616 := by
  unfold mixOf
  simp only
  have key : ∀ x : Int, 0 ≤ IntKind.u64.wrap x ∧ IntKind.u64.wrap x < 18446744073709551616 := fun x => by rw [IntKind.wrap_u64]; omega
  have h := key (bits BinOp.xor IntKind.u64 (IntKind.u64.wrap (bits BinOp.xor IntKind.u64 (IntKind.u64.wrap (N + 11400714819323198485)) (IntKind.u64.wrap (N + 11400714819323198485) / 1073741824) * 13787848793156543929)) (IntKind.u64.wrap (bits BinOp.xor IntKind.u64 (IntKind.u64.wrap (N + 11400714819323198485)) (IntKind.u64.wrap (N + 11400714819323198485) / 1073741824) * 13787848793156543929) / 134217728) * 10723151780598845931)
  exact xor_in h (by omega)

def LessOk : Prop := ∀ (a b : Ver) (w : World), VerW a → VerW b → Calls Try.prog 45 #[verV a, verV b] w fun e w' => e = .returned (.bool (lessB a b)) ∧ Below w.heap.size w w'

end Mt
end Go.Proofs.Ythcllaombabpbaa
/-
  Plain mathematics of chapter 6: a table as a list of versions with their towers' heights; P6.8.
-/
namespace Go.Proofs.Ythcllaombabpbaa
open Go.RowKit
set_option linter.unusedVariables false
set_option linter.unusedSimpArgs false
namespace Mt
open Op (bytesLess)
theorem bl_irrefl : ∀ a : List UInt8, bytesLess a a = false
  | [] => rfl
  | c :: r => by rw [Cd.bl_cons]; simp [bl_irrefl r]
theorem bl_trans : ∀ {a b c : List UInt8}, bytesLess a b = true → bytesLess b c = true → bytesLess a c = true
  | _, [], c, h, k => by rw [Cd.bl_nil_r] at h; cases h
  | _, _ :: _, [], h, k => by rw [Cd.bl_nil_r] at k; cases k
  | [], _ :: _, _ :: _, h, k => rfl
  | x :: p, y :: q, z :: r, h, k => by
    rw [Cd.bl_cons] at h k ⊢
    simp only [Bool.or_eq_true, Bool.and_eq_true, decide_eq_true_eq] at h k ⊢
    rcases h with h | ⟨h, h'⟩ <;> rcases k with k | ⟨k, k'⟩
    · exact .inl (by omega)
    · exact .inl (by omega)
    · exact .inl (by omega)
    · exact .inr ⟨by omega, bl_trans h' k'⟩
theorem less_irrefl (a : Ver) : lessB a a = false := by unfold lessB; simp
theorem less_trans {a b c : Ver} (h : lessB a b = true) (k : lessB b c = true) : lessB a c = true := by
  unfold lessB at *
  by_cases h1 : a.key = b.key
  · rw [if_pos h1] at h
    by_cases h2 : b.key = c.key
    · rw [if_pos h2] at k
      rw [if_pos (h1.trans h2)]
      simp at h k ⊢
      omega
    · rw [if_neg h2] at k
      rw [if_neg (fun e => h2 (h1.symm.trans e)), h1]
      exact k
  · rw [if_neg h1] at h
    by_cases h2 : b.key = c.key
    · rw [if_pos h2] at k
      rw [if_neg (fun e => h1 (e.trans h2.symm)), ← h2]
      exact h
    · rw [if_neg h2] at k
      have := bl_trans h k
      rw [if_neg (fun e => by rw [e, bl_irrefl] at this; cases this)]
      exact this
/-- a table: its versions in order, with heights -/
abbrev Tab := List (Ver × Nat)
def vers (t : Tab) : List Ver := t.map (·.1)
/-- P6.3's limits -/
def mayB (v : Ver) : Bool := decide (1 ≤ v.key.length) && decide (v.key.length ≤ 96) && decide (1 ≤ v.seq) && decide (v.seq ≤ 1125899906842624) && decide (v.val.length ≤ 16384) && (!v.del || decide (v.val = []))
def Ordered (t : Tab) : Prop := (vers t).Pairwise fun a b => lessB a b = true
/-- where a version goes -/
def spot (t : Tab) (v : Ver) : Nat := (t.takeWhile fun x => lessB x.1 v).length
def put (t : Tab) (v : Ver) (h : Nat) : Tab := t.take (spot t v) ++ (v, h) :: t.drop (spot t v)
def there (t : Tab) (v : Ver) : Bool := (vers t).any fun x => placeB x v
def newest (t : Tab) (key : List UInt8) (seq : Int) : Option Ver := (vers t).find? fun x => decide (x.key = key ∧ x.seq ≤ seq)
def from' (t : Tab) (key : List UInt8) : List Ver := (vers t).filter fun x => !bytesLess x.key key
def bytes (t : Tab) : Nat := ((vers t).map fun x => x.key.length + x.val.length + 16).sum
def level (t : Tab) (l : Int) : List Ver := (t.filter fun x => decide (0 ≤ l ∧ l < (x.2 : Int))).map (·.1)
theorem take_spot (t : Tab) (v : Ver) : t.take (spot t v) = t.takeWhile fun x => lessB x.1 v := by
  unfold spot
  induction t with
  | nil => rfl
  | cons x r ih =>
    cases h : lessB x.1 v with
    | true => rw [List.takeWhile_cons_of_pos (by simpa using h), List.length_cons, List.take_succ_cons, ih]
    | false => rw [List.takeWhile_cons_of_neg (by simp [h])]; rfl
theorem drop_spot (t : Tab) (v : Ver) : t.drop (spot t v) = t.dropWhile fun x => lessB x.1 v := by
  unfold spot
  induction t with
  | nil => rfl
  | cons x r ih =>
    cases h : lessB x.1 v with
    | true => rw [List.takeWhile_cons_of_pos (by simpa using h), List.dropWhile_cons_of_pos (by simpa using h), List.length_cons, List.drop_succ_cons, ih]
    | false => rw [List.takeWhile_cons_of_neg (by simp [h]), List.dropWhile_cons_of_neg (by simp [h])]; rfl
theorem mem_put (t : Tab) (v : Ver) (h : Nat) (x : Ver × Nat) : x ∈ put t v h ↔ x = (v, h) ∨ x ∈ t := by
  unfold put
  rw [List.mem_append, List.mem_cons]
  constructor
  · rintro (h1 | h1 | h1)
    · exact .inr (List.mem_of_mem_take h1)
    · exact .inl h1
    · exact .inr (List.mem_of_mem_drop h1)
  · rintro (h1 | h1)
    · exact .inr (.inl h1)
    · rw [← List.take_append_drop (spot t v) t, List.mem_append] at h1
      rcases h1 with h1 | h1
      · exact .inl h1
      · exact .inr (.inr h1)
/-- in order it stays -/
theorem put_ordered {t : Tab} (ht : Ordered t) (v : Ver) (h : Nat) (hn : there t v = false) : Ordered (put t v h) := by
  induction t with
  | nil => unfold put spot; simp [Ordered, vers]
  | cons x r ih =>
    unfold Ordered vers at ht
    rw [List.map_cons, List.pairwise_cons] at ht
    have hn2 : placeB x.1 v = false ∧ there r v = false := by
      unfold there vers at hn
      rw [List.map_cons, List.any_cons, Bool.or_eq_false_iff] at hn
      exact hn
    cases hx : lessB x.1 v with
    | true =>
      have e : put (x :: r) v h = x :: put r v h := by
        unfold put
        have : spot (x :: r) v = spot r v + 1 := by unfold spot; rw [List.takeWhile_cons_of_pos (by simpa using hx), List.length_cons]
        rw [this]; rfl
      rw [e]
      unfold Ordered vers
      rw [List.map_cons, List.pairwise_cons]
      refine ⟨fun y hy => ?_, ih ht.2 hn2.2⟩
      obtain ⟨z, hz, rfl⟩ := List.mem_map.1 hy
      rcases (mem_put r v h z).1 hz with rfl | hz
      · exact hx
      · exact ht.1 _ (List.mem_map_of_mem hz)
    | false =>
      have e : put (x :: r) v h = (v, h) :: x :: r := by
        unfold put
        have : spot (x :: r) v = 0 := by unfold spot; rw [List.takeWhile_cons_of_neg (by simp [hx])]; rfl
        rw [this]; rfl
      rw [e]
      have hvx : lessB v x.1 = true := by
        have := (less_total x.1 v).2
        rw [hx, hn2.1] at this
        simpa using this
      unfold Ordered vers
      rw [List.map_cons, List.pairwise_cons]
      refine ⟨fun y hy => ?_, by rw [List.map_cons, List.pairwise_cons]; exact ht⟩
      rw [List.map_cons] at hy
      rcases List.mem_cons.1 hy with rfl | hy
      · exact hvx
      · exact less_trans hvx (ht.1 y hy)
/-- P6.8: what stands in order is told by what stands -/
theorem ordered_unique : ∀ {a b : List Ver}, (a.Pairwise fun x y => lessB x y = true) → (b.Pairwise fun x y => lessB x y = true) → (∀ x, x ∈ a ↔ x ∈ b) → a = b
  | [], [], _, _, _ => rfl
  | [], y :: s, _, _, h => by have := (h y).2 (List.mem_cons_self ..); cases this
  | x :: r, [], _, _, h => by have := (h x).1 (List.mem_cons_self ..); cases this
  | x :: r, y :: s, ha, hb, h => by
    rw [List.pairwise_cons] at ha hb
    have hxy : x = y := by
      rcases List.mem_cons.1 ((h x).1 (List.mem_cons_self ..)) with e | e
      · exact e
      · rcases List.mem_cons.1 ((h y).2 (List.mem_cons_self ..)) with e' | e'
        · exact e'.symm
        · have := less_trans (hb.1 x e) (ha.1 y e')
          rw [less_irrefl] at this
          cases this
    subst hxy
    have : r = s := ordered_unique ha.2 hb.2 (fun z => by
      have hz := h z
      rw [List.mem_cons, List.mem_cons] at hz
      constructor
      · intro hm
        rcases hz.1 (.inr hm) with e | e
        · subst e; have := ha.1 z hm; rw [less_irrefl] at this; cases this
        · exact e
      · intro hm
        rcases hz.2 (.inr hm) with e | e
        · subst e; have := hb.1 z hm; rw [less_irrefl] at this; cases this
        · exact e)
    rw [this]
/-- heights play no part -/
theorem vers_put (t : Tab) (v : Ver) (h : Nat) : vers (put t v h) = (vers t).take (spot t v) ++ v :: (vers t).drop (spot t v) := by
  unfold put vers
  rw [List.map_append, List.map_cons, List.map_take, List.map_drop]
theorem there_of_same {a b : Tab} (h : vers a = vers b) (v : Ver) : there a v = there b v := by unfold there; rw [h]
theorem newest_of_same {a b : Tab} (h : vers a = vers b) (k : List UInt8) (s : Int) : newest a k s = newest b k s := by unfold newest; rw [h]
theorem from_of_same {a b : Tab} (h : vers a = vers b) (k : List UInt8) : from' a k = from' b k := by unfold from'; rw [h]
theorem bytes_of_same {a b : Tab} (h : vers a = vers b) : bytes a = bytes b := by unfold bytes; rw [h]
theorem mem_vers_put (t : Tab) (v : Ver) (h : Nat) (x : Ver) : x ∈ vers (put t v h) ↔ x = v ∨ x ∈ vers t := by
  unfold vers
  constructor
  · intro hx
    obtain ⟨y, hy, rfl⟩ := List.mem_map.1 hx
    rcases (mem_put t v h y).1 hy with rfl | hy
    · exact .inl rfl
    · exact .inr (List.mem_map_of_mem hy)
  · rintro (rfl | hx)
    · exact List.mem_map.2 ⟨(x, h), (mem_put t x h _).2 (.inl rfl), rfl⟩
    · obtain ⟨y, hy, rfl⟩ := List.mem_map.1 hx
      exact List.mem_map_of_mem ((mem_put t v h y).2 (.inr hy))
theorem there_put (t : Tab) (v : Ver) (h : Nat) (u : Ver) : there (put t v h) u = (placeB v u || there t u) := by
  unfold there
  rw [Bool.eq_iff_iff, Bool.or_eq_true, List.any_eq_true, List.any_eq_true]
  constructor
  · rintro ⟨x, hx, hp⟩
    rcases (mem_vers_put t v h x).1 hx with rfl | hx
    · exact .inl hp
    · exact .inr ⟨x, hx, hp⟩
  · rintro (hp | ⟨x, hx, hp⟩)
    · exact ⟨v, (mem_vers_put t v h v).2 (.inl rfl), hp⟩
    · exact ⟨x, (mem_vers_put t v h x).2 (.inr hx), hp⟩
theorem placeB_comm (a b : Ver) : placeB a b = placeB b a := by
  unfold placeB
  rw [Bool.eq_iff_iff, decide_eq_true_eq, decide_eq_true_eq]
  constructor <;> exact fun h => ⟨h.1.symm, h.2.symm⟩
/-- versions added one after another -/
def putAll (t : Tab) (P : List (Ver × Nat)) : Tab := P.foldl (fun t p => put t p.1 p.2) t
/-- no two of one place, and none of a place that is taken -/
def Fresh (t : Tab) (P : List (Ver × Nat)) : Prop := (P.Pairwise fun a b => placeB a.1 b.1 = false) ∧ ∀ p ∈ P, there t p.1 = false
theorem Fresh.tail {t : Tab} {p : Ver × Nat} {P : List (Ver × Nat)} (h : Fresh t (p :: P)) : Fresh (put t p.1 p.2) P := by
  obtain ⟨h1, h2⟩ := h
  rw [List.pairwise_cons] at h1
  exact ⟨h1.2, fun q hq => by rw [there_put, h1.1 q hq, h2 q (List.mem_cons_of_mem _ hq)]; rfl⟩
theorem putAll_ordered : ∀ (P : List (Ver × Nat)) {t : Tab}, Ordered t → Fresh t P → Ordered (putAll t P)
  | [], _, ht, _ => ht
  | p :: P, t, ht, hf => putAll_ordered P (put_ordered ht p.1 p.2 (hf.2 p (List.mem_cons_self ..))) hf.tail
theorem mem_putAll : ∀ (P : List (Ver × Nat)) (t : Tab) (x : Ver), x ∈ vers (putAll t P) ↔ x ∈ vers t ∨ x ∈ P.map (·.1)
  | [], t, x => by simp [putAll]
  | p :: P, t, x => by
    have := mem_putAll P (put t p.1 p.2) x
    rw [show putAll t (p :: P) = putAll (put t p.1 p.2) P from rfl, this, mem_vers_put, List.map_cons, List.mem_cons]
    constructor
    · rintro ((h | h) | h)
      · exact .inr (.inl h)
      · exact .inl h
      · exact .inr (.inr h)
    · rintro (h | h | h)
      · exact .inl (.inr h)
      · exact .inl (.inl h)
      · exact .inr h
/-- P6.8: the same versions, in whatever order, with whatever towers -/
theorem putAll_same {P Q : List (Ver × Nat)} (hP : Fresh [] P) (hQ : Fresh [] Q) (h : ∀ x, x ∈ P.map (·.1) ↔ x ∈ Q.map (·.1)) : vers (putAll [] P) = vers (putAll [] Q) := by
  have ho : Ordered [] := List.Pairwise.nil
  refine ordered_unique (putAll_ordered P ho hP) (putAll_ordered Q ho hQ) fun x => ?_
  rw [mem_putAll, mem_putAll, h x]
theorem fresh_nil {P : List (Ver × Nat)} (h : P.Pairwise fun a b => placeB a.1 b.1 = false) : Fresh [] P := ⟨h, fun _ _ => rfl⟩
/-- the other way round, with other towers -/
def turned (P : List (Ver × Nat)) : List (Ver × Nat) := P.reverse.map fun p => (p.1, 9 - p.2)
theorem turned_fresh {P : List (Ver × Nat)} (h : Fresh [] P) : Fresh [] (turned P) := by
  refine fresh_nil ?_
  unfold turned
  rw [List.pairwise_map, List.pairwise_reverse]
  exact h.1.imp fun {a b} hab => by rw [placeB_comm]; exact hab
theorem turned_same {P : List (Ver × Nat)} (h : Fresh [] P) : vers (putAll [] P) = vers (putAll [] (turned P)) := by
  refine putAll_same h (turned_fresh h) fun x => ?_
  unfold turned
  rw [List.map_map]
  simp
theorem putAll_snoc (t : Tab) (P : List (Ver × Nat)) (p : Ver × Nat) : putAll t (P ++ [p]) = put (putAll t P) p.1 p.2 := by simp [putAll]
/-- what is added with leave stays fresh -/
theorem fresh_snoc {P : List (Ver × Nat)} {p : Ver × Nat} (h : Fresh [] P) (hn : there (putAll [] P) p.1 = false) : Fresh [] (P ++ [p]) := by
  refine fresh_nil ?_
  rw [List.pairwise_append]
  refine ⟨h.1, List.pairwise_singleton _ _, fun a ha b hb => ?_⟩
  rw [List.mem_singleton] at hb
  subst hb
  unfold there at hn
  rw [List.any_eq_false] at hn
  simpa using hn a.1 ((mem_putAll P [] a.1).2 (.inr (List.mem_map_of_mem ha)))
/-- of a fresh list each is free when its turn comes -/
theorem fresh_turn {P Q : List (Ver × Nat)} {p : Ver × Nat} (h : Fresh [] (P ++ p :: Q)) : there (putAll [] P) p.1 = false := by
  unfold there
  rw [List.any_eq_false]
  intro x hx
  rw [mem_putAll] at hx
  rcases hx with hx | hx
  · cases hx
  · obtain ⟨q, hq, rfl⟩ := List.mem_map.1 hx
    have := (List.pairwise_append.1 h.1).2.2 q hq p (List.mem_cons_self ..)
    simpa using this
theorem put_len (t : Tab) (v : Ver) (h : Nat) : (put t v h).length = t.length + 1 := by
  unfold put
  rw [List.length_append, List.length_cons, List.length_take, List.length_drop]
  have : spot t v ≤ t.length := by unfold spot; exact (List.takeWhile_sublist _).length_le
  omega
theorem putAll_len : ∀ (P : List (Ver × Nat)) (t : Tab), (putAll t P).length = t.length + P.length
  | [], t => rfl
  | p :: P, t => by rw [show putAll t (p :: P) = putAll (put t p.1 p.2) P from rfl, putAll_len P, put_len, List.length_cons]; omega
end Mt
end Go.Proofs.Ythcllaombabpbaa

/-
  Plain mathematics of P1.8: what is written is read again; keys rise as what they are keys of.
-/
namespace Go.Proofs.Ythcllaombabpbaa
namespace Cd
open Go.RowKit
open Op (bytesLess)

theorem chain {a b c : World} (h : Below a.heap.size a b) (k : Below b.heap.size b c) : Below a.heap.size a c := h.trans (k.mono h.size)

theorem ofNat_low {m : Nat} (h : m < 256) : (UInt8.ofNat m).toNat = m := by rw [UInt8.toNat_ofNat']; omega

theorem takeGo_putU (r : List UInt8) (m : Nat) : ∀ (i acc : Nat), i ≤ 9 → m * 128 ^ i < 18446744073709551616 → (0 < i → 1 ≤ m) →
    takeGo (putU m ++ r) i acc = (acc + m * 128 ^ i, i + (putU m).length, 0) := by
  induction m using Nat.strongRecOn with
  | ind m ih =>
    intro i acc hi hm h1
    have h9 : (128 : Nat) ^ 9 = 9223372036854775808 := by decide
    by_cases h : m < 128
    · rw [putU_last h, List.cons_append, List.nil_append]
      have e := ofNat_low (m := m) (by omega)
      rw [go_last (by
        rw [e]
        rintro (⟨rfl, h2⟩ | ⟨h2, h3⟩)
        · have : 2 * 128 ^ 9 ≤ m * 128 ^ 9 := Nat.mul_le_mul_right _ h2
          omega
        · have := h1 h2; omega) (by rw [e]; exact h), e, Nat.mod_eq_of_lt h]
      simp
    · have e := ofNat_low (m := m % 128 + 128) (by omega)
      have hi8 : i ≠ 9 := by
        rintro rfl
        have : 128 * 128 ^ 9 ≤ m * 128 ^ 9 := Nat.mul_le_mul_right _ (by omega)
        omega
      rw [putU_more (by omega), List.cons_append, go_more (by rw [e]; omega) (by rw [e]; omega), e]
      have hs := put_step (m := m) (k := i) (Nat.le_refl _)
      rw [ih (m / 128) (by omega) (i + 1) _ (by omega) (by omega) (by omega)]
      have e2 : (m % 128 + 128) % 128 = m % 128 := by omega
      have e3 : m % 128 * 128 ^ i + m / 128 * 128 ^ (i + 1) = m * 128 ^ i := by
        rw [pow_s, ← Nat.mul_assoc, ← Nat.add_mul]
        congr 1; omega
      rw [e2, List.length_cons]
      simp only [Prod.mk.injEq, and_true]
      omega
theorem takeU_putU (m : Nat) (r : List UInt8) (h : m < 18446744073709551616) : takeU (putU m ++ r) = (m, (putU m).length, 0) := by
  unfold takeU
  rw [takeGo_putU r m 0 0 (by omega) (by simpa using h) (by omega)]
  simp
theorem takeT_putT (s r : List UInt8) (h : s.length < 18446744073709551616) : takeT (putT s ++ r) (s.length : Int) = (s, (putT s).length, 0) := by
  have hu := takeU_putU s.length (s ++ r) h
  have e : putT s ++ r = putU s.length ++ (s ++ r) := by rw [putT, List.append_assoc]
  rw [e, takeT_text hu (by simp) (by simp)]
  simp [putT]

theorem big_step (n k : Nat) : 256 * (n / 256 ^ (k + 1)) + n / 256 ^ k % 256 = n / 256 ^ k := by
  rw [Nat.pow_succ, ← Nat.div_div_eq_div_mul]; exact Nat.div_add_mod _ _
theorem wordGo_big (n : Nat) (h : n < 18446744073709551616) : wordGo (big n) = n := by
  have e : big n = [bigByte n 0, bigByte n 1, bigByte n 2, bigByte n 3, bigByte n 4, bigByte n 5, bigByte n 6, bigByte n 7] := by simp [big, List.range, List.range.loop]
  have hb : ∀ j, (bigByte n j).toNat = n / 256 ^ (7 - j) % 256 := fun j => ofNat_low (Nat.mod_lt _ (by omega))
  have h7 : 256 * 0 + n / 256 ^ 7 % 256 = n / 256 ^ 7 := by
    have : n / 256 ^ 7 < 256 := Nat.div_lt_of_lt_mul (by have : (256 : Nat) ^ 7 * 256 = 18446744073709551616 := by decide
                                                         omega)
    rw [Nat.mod_eq_of_lt this]; simp
  rw [e]
  unfold wordGo
  simp only [List.foldl_cons, List.foldl_nil, hb]
  rw [show 7 - 0 = 7 from rfl, show 7 - 1 = 6 from rfl, show 7 - 2 = 5 from rfl, show 7 - 3 = 4 from rfl, show 7 - 4 = 3 from rfl, show 7 - 5 = 2 from rfl, show 7 - 6 = 1 from rfl, show 7 - 7 = 0 from rfl]
  rw [h7, big_step n 6, big_step n 5, big_step n 4, big_step n 3, big_step n 2, big_step n 1, big_step n 0]
  simp
theorem big_len (n : Nat) : (big n).length = 8 := by simp [big]
theorem keyOf_turn (m : Int) (h1 : -9223372036854775808 ≤ m) (h2 : m ≤ 9223372036854775807) : keyOf (turn m) = m := by
  have ht := turn_lt m h2
  have h := u64_xor_nat (turn m) 9223372036854775808 ht (by omega)
  unfold keyOf
  rw [show (9223372036854775808 : Int) = ((9223372036854775808 : Nat) : Int) from rfl, h, xor_top _ ht]
  unfold turn at *
  by_cases hm : 0 ≤ m
  · rw [if_neg (by omega), IntWalk.wrap64_in _ ⟨by omega, by omega⟩]; omega
  · rw [if_pos (by omega)]
    have : (((m + 9223372036854775808).toNat + 9223372036854775808 : Nat) : Int) = m + 18446744073709551616 := by omega
    rw [this]
    unfold wrap64
    omega
theorem takeKI_big (m : Int) (r : List UInt8) (h1 : -9223372036854775808 ≤ m) (h2 : m ≤ 9223372036854775807) : takeKI (big (turn m) ++ r) = (m, 8, 0) := by
  rw [takeKI_eight (by rw [List.length_append, big_len]; omega), List.take_left' (big_len _), wordGo_big _ (turn_lt m h2), keyOf_turn m h1 h2]

theorem takeKGo_key (r : List UInt8) : ∀ (s acc : List UInt8) (k : Nat), takeKGo (keyGo s ++ [0, 1] ++ r) acc k = (acc ++ s, k + (keyGo s).length + 2, 0)
  | [], acc, k => by
    show takeKGo (0 :: 1 :: r) acc k = _
    rw [tk_end rfl rfl]; simp [keyGo]
  | c :: s, acc, k => by
    by_cases h : c.toNat = 0
    · have hc : c = 0 := UInt8.toNat_inj.1 (by simpa using h)
      rw [key_zero h]
      show takeKGo (c :: 255 :: (keyGo s ++ [0, 1] ++ r)) acc k = _
      rw [tk_zero h rfl, takeKGo_key r s]
      subst hc
      simp; omega
    · rw [key_plain h]
      show takeKGo (c :: (keyGo s ++ [0, 1] ++ r)) acc k = _
      rw [tk_plain h, takeKGo_key r s]
      simp; omega
theorem takeK_keyT (s r : List UInt8) : takeK (keyT s ++ r) = (s, (keyT s).length, 0) := by
  unfold takeK keyT
  rw [takeKGo_key]
  simp

/-! order -/
theorem foldl_ge (l : List UInt8) : ∀ a : Nat, a * 256 ^ l.length ≤ l.foldl (fun n c => 256 * n + c.toNat) a := by
  induction l with
  | nil => intro a; simp
  | cons c l ih =>
    intro a
    have h := ih (256 * a + c.toNat)
    have h2 : (256 * a) * 256 ^ l.length ≤ (256 * a + c.toNat) * 256 ^ l.length := Nat.mul_le_mul_right _ (by omega)
    rw [List.foldl_cons, List.length_cons, Nat.pow_succ]
    have h3 : a * (256 ^ l.length * 256) = (256 * a) * 256 ^ l.length := by rw [Nat.mul_comm 256 a, Nat.mul_assoc, Nat.mul_comm 256]
    omega
theorem bl_word : ∀ (p q : List UInt8) (a : Nat), p.length = q.length → bytesLess p q = decide (p.foldl (fun n c => 256 * n + c.toNat) a < q.foldl (fun n c => 256 * n + c.toNat) a)
  | [], [], a, _ => by simp [bl_nil_r]
  | c :: p, d :: q, a, h => by
    have hl : p.length = q.length := by simpa using h
    rw [bl_cons, List.foldl_cons, List.foldl_cons]
    rcases Nat.lt_trichotomy c.toNat d.toNat with h1 | h1 | h1
    · have e1 : decide (c.toNat < d.toNat) = true := by simpa using h1
      have hlt := foldl_lt p (256 * a + c.toNat)
      have hge := foldl_ge q (256 * a + d.toNat)
      rw [← hl] at hge
      have hm : (256 * a + c.toNat + 1) * 256 ^ p.length ≤ (256 * a + d.toNat) * 256 ^ p.length := Nat.mul_le_mul_right _ (by omega)
      rw [e1, Bool.true_or]
      exact (decide_eq_true (by omega)).symm
    · have e1 : decide (c.toNat < d.toNat) = false := by simp; omega
      have e2 : decide (c.toNat = d.toNat) = true := by simpa using h1
      rw [e1, e2, h1, bl_word p q (256 * a + d.toNat) hl]; simp
    · have e1 : decide (c.toNat < d.toNat) = false := by simp; omega
      have e2 : decide (c.toNat = d.toNat) = false := by simp; omega
      have hlt := foldl_lt q (256 * a + d.toNat)
      have hge := foldl_ge p (256 * a + c.toNat)
      rw [hl] at hge
      have hm : (256 * a + d.toNat + 1) * 256 ^ q.length ≤ (256 * a + c.toNat) * 256 ^ q.length := Nat.mul_le_mul_right _ (by omega)
      rw [e1, e2, Bool.false_or, Bool.false_and]
      exact (decide_eq_false (by omega)).symm
theorem bl_append : ∀ (p q x y : List UInt8), p.length = q.length → p ≠ q → bytesLess (p ++ x) (q ++ y) = bytesLess p q
  | [], [], _, _, _, h => absurd rfl h
  | c :: p, d :: q, x, y, h, hne => by
    rw [List.cons_append, List.cons_append, bl_cons, bl_cons]
    by_cases e : c.toNat = d.toNat
    · have hc : c = d := UInt8.toNat_inj.1 e
      rw [bl_append p q x y (by simpa using h) (by rintro rfl; exact hne (by rw [hc]))]
    · have e2 : decide (c.toNat = d.toNat) = false := by simpa using e
      rw [e2]; simp
theorem big_rises (m m' : Int) (x y : List UInt8) (h1 : -9223372036854775808 ≤ m) (h2 : m ≤ 9223372036854775807) (h1' : -9223372036854775808 ≤ m') (h2' : m' ≤ 9223372036854775807) (hne : m ≠ m') :
    bytesLess (big (turn m) ++ x) (big (turn m') ++ y) = decide (m < m') := by
  have t1 := turn_lt m h2
  have t2 := turn_lt m' h2'
  have w1 := wordGo_big _ t1
  have w2 := wordGo_big _ t2
  have hb : big (turn m) ≠ big (turn m') := by
    intro e
    rw [e, w2] at w1
    unfold turn at w1; omega
  rw [bl_append _ _ x y (by rw [big_len, big_len]) hb, bl_word _ _ 0 (by rw [big_len, big_len])]
  have e1 : (big (turn m)).foldl (fun n c => 256 * n + c.toNat) 0 = turn m := w1
  have e2 : (big (turn m')).foldl (fun n c => 256 * n + c.toNat) 0 = turn m' := w2
  rw [e1, e2, decide_eq_decide]
  unfold turn; omega

/-- two keys part before either ends, and as their texts do -/
theorem key_rises (x y : List UInt8) : ∀ (s t : List UInt8), s ≠ t → bytesLess (keyT s ++ x) (keyT t ++ y) = bytesLess s t ∧ common (keyT s) (keyT t) < (keyT s).length ∧ common (keyT s) (keyT t) < (keyT t).length
  | [], [], h => absurd rfl h
  | [], d :: t, _ => by
    unfold keyT
    by_cases h : d.toNat = 0
    · have hd : d = 0 := UInt8.toNat_inj.1 (by simpa using h)
      subst hd
      rw [key_zero rfl]
      refine ⟨rfl, ?_, ?_⟩
      · simp [keyGo, common]
      · simp [keyGo, common]
    · rw [key_plain h]
      have e1 : ¬ (0 : UInt8).toNat = d.toNat := by simp; omega
      refine ⟨?_, ?_, ?_⟩
      · show bytesLess (0 :: ([1] ++ x)) (d :: (keyGo t ++ [0, 1] ++ y)) = true
        rw [bl_cons]
        have : decide ((0 : UInt8).toNat < d.toNat) = true := by simp; omega
        rw [this]; rfl
      · show common (0 :: [1]) (d :: (keyGo t ++ [0, 1])) < _
        rw [common_ne e1]; simp [keyGo]
      · show common (0 :: [1]) (d :: (keyGo t ++ [0, 1])) < _
        rw [common_ne e1]; simp
  | c :: s, [], _ => by
    unfold keyT
    by_cases h : c.toNat = 0
    · have hd : c = 0 := UInt8.toNat_inj.1 (by simpa using h)
      subst hd
      rw [key_zero rfl]
      refine ⟨rfl, ?_, ?_⟩
      · simp [keyGo, common]
      · simp [keyGo, common]
    · rw [key_plain h]
      have e1 : ¬ c.toNat = (0 : UInt8).toNat := by simp; omega
      refine ⟨?_, ?_, ?_⟩
      · show bytesLess (c :: (keyGo s ++ [0, 1] ++ x)) (0 :: ([1] ++ y)) = false
        rw [bl_cons]
        have e2 : decide (c.toNat < (0 : UInt8).toNat) = false := by simp
        have e3 : decide (c.toNat = (0 : UInt8).toNat) = false := by simpa using e1
        rw [e2, e3]; rfl
      · show common (c :: (keyGo s ++ [0, 1])) (0 :: [1]) < _
        rw [common_ne e1]; simp
      · show common (c :: (keyGo s ++ [0, 1])) (0 :: [1]) < _
        rw [common_ne e1]; simp [keyGo]
  | c :: s, d :: t, hne => by
    unfold keyT
    by_cases e : c.toNat = d.toNat
    · have hcd : c = d := UInt8.toNat_inj.1 e
      subst hcd
      have ih := key_rises x y s t (by rintro rfl; exact hne rfl)
      unfold keyT at ih
      have hb : bytesLess (c :: s) (c :: t) = bytesLess s t := by rw [bl_cons]; simp
      rw [hb]
      by_cases h : c.toNat = 0
      · rw [key_zero h, key_zero h]
        refine ⟨?_, ?_, ?_⟩
        · show bytesLess (c :: 255 :: (keyGo s ++ [0, 1] ++ x)) (c :: 255 :: (keyGo t ++ [0, 1] ++ y)) = _
          rw [bl_cons, bl_cons, ih.1]; simp
        · show common (c :: 255 :: (keyGo s ++ [0, 1])) (c :: 255 :: (keyGo t ++ [0, 1])) < (c :: 255 :: (keyGo s ++ [0, 1])).length
          rw [common_eq rfl, common_eq rfl]; simp only [List.length_cons]; have := ih.2.1; omega
        · show common (c :: 255 :: (keyGo s ++ [0, 1])) (c :: 255 :: (keyGo t ++ [0, 1])) < (c :: 255 :: (keyGo t ++ [0, 1])).length
          rw [common_eq rfl, common_eq rfl]; simp only [List.length_cons]; have := ih.2.2; omega
      · rw [key_plain h, key_plain h]
        refine ⟨?_, ?_, ?_⟩
        · show bytesLess (c :: (keyGo s ++ [0, 1] ++ x)) (c :: (keyGo t ++ [0, 1] ++ y)) = _
          rw [bl_cons, ih.1]; simp
        · show common (c :: (keyGo s ++ [0, 1])) (c :: (keyGo t ++ [0, 1])) < (c :: (keyGo s ++ [0, 1])).length
          rw [common_eq rfl]; simp only [List.length_cons]; have := ih.2.1; omega
        · show common (c :: (keyGo s ++ [0, 1])) (c :: (keyGo t ++ [0, 1])) < (c :: (keyGo t ++ [0, 1])).length
          rw [common_eq rfl]; simp only [List.length_cons]; have := ih.2.2; omega
    · have e2 : decide (c.toNat = d.toNat) = false := by simpa using e
      have key_head : ∀ (a : UInt8) (l : List UInt8), ∃ r, keyGo (a :: l) = a :: r := by
        intro a l
        by_cases h : a.toNat = 0
        · exact ⟨_, key_zero h⟩
        · exact ⟨_, key_plain h⟩
      obtain ⟨r1, h1⟩ := key_head c s
      obtain ⟨r2, h2⟩ := key_head d t
      rw [h1, h2]
      refine ⟨?_, ?_, ?_⟩
      · show bytesLess (c :: (r1 ++ [0, 1] ++ x)) (d :: (r2 ++ [0, 1] ++ y)) = _
        rw [bl_cons, bl_cons, e2]; simp
      · show common (c :: (r1 ++ [0, 1])) (d :: (r2 ++ [0, 1])) < _
        rw [common_ne e]; simp
      · show common (c :: (r1 ++ [0, 1])) (d :: (r2 ++ [0, 1])) < _
        rw [common_ne e]; simp
end Cd
end Go.Proofs.Ythcllaombabpbaa

/-
  Plain mathematics of chapter 8: a version's place as bytes, blocks, a table.
-/
namespace Go.Proofs.Ythcllaombabpbaa
open Go.RowKit
namespace Tb
open Op (bytesLess)
open Mt (Ver mayB lessB placeB)
/-- what stands behind the key: twice the sequence number, one more of a Del, all bits turned -/
def mark (v : Ver) : Nat := 18446744073709551615 - (2 * v.seq.toNat + if v.del then 1 else 0)
def encKey (v : Ver) : List UInt8 := if mayB v = true then Cd.keyT v.key ++ Cd.big (mark v) else []
/-- a version out of a key and a mark -/
def verOf (key : List UInt8) (w : Nat) : Ver := ⟨key, (((18446744073709551615 - w) / 2 : Nat) : Int), decide ((18446744073709551615 - w) % 2 = 1), []⟩
def none' : Ver := ⟨[], 0, false, []⟩
/-- P8.1 -/
def decKey (s : List UInt8) : Ver × Nat :=
  if (Cd.takeK s).2.2 = 0 ∧ s.length = (Cd.takeK s).2.1 + 8 then
    if encKey (verOf (Cd.takeK s).1 (Cd.wordGo (s.drop (Cd.takeK s).2.1))) = s then (verOf (Cd.takeK s).1 (Cd.wordGo (s.drop (Cd.takeK s).2.1)), 0) else (none', 3)
  else (none', 3)
theorem bl_pre : ∀ (p x y : List UInt8), bytesLess (p ++ x) (p ++ y) = bytesLess x y
  | [], _, _ => rfl
  | c :: r, x, y => by rw [List.cons_append, List.cons_append, Cd.bl_cons, bl_pre r]; simp
theorem bl_big (m n : Nat) (hm : m < 18446744073709551616) (hn : n < 18446744073709551616) : bytesLess (Cd.big m) (Cd.big n) = decide (m < n) := by
  have h := Cd.bl_word (Cd.big m) (Cd.big n) 0 (by rw [Cd.big_len, Cd.big_len])
  have h1 := Cd.wordGo_big m hm
  have h2 := Cd.wordGo_big n hn
  unfold Cd.wordGo at h1 h2
  rw [h1, h2] at h
  exact h
theorem may_seq {v : Ver} (h : mayB v = true) : 1 ≤ v.seq ∧ v.seq ≤ 1125899906842624 ∧ 1 ≤ v.key.length ∧ v.key.length ≤ 96 ∧ v.val.length ≤ 16384 ∧ (v.del = true → v.val = []) := by
  unfold mayB at h
  simp only [Bool.and_eq_true, decide_eq_true_eq, Bool.or_eq_true, Bool.not_eq_true'] at h
  obtain ⟨⟨⟨⟨⟨h1, h2⟩, h3⟩, h4⟩, h5⟩, h6⟩ := h
  exact ⟨h3, h4, h1, h2, h5, fun hd => by rcases h6 with h6 | h6; · rw [h6] at hd; cases hd
                                          · exact h6⟩
/-- places as bytes stand as versions do -/
theorem enc_rises {a b : Ver} (ha : mayB a = true) (hb : mayB b = true) (hn : ¬ (a.key = b.key ∧ a.seq = b.seq)) : bytesLess (encKey a) (encKey b) = lessB a b := by
  unfold encKey lessB
  rw [if_pos ha, if_pos hb]
  obtain ⟨a1, a2, _⟩ := may_seq ha
  obtain ⟨b1, b2, _⟩ := may_seq hb
  by_cases h : a.key = b.key
  · rw [if_pos h, h, bl_pre]
    have hs : a.seq ≠ b.seq := fun e => hn ⟨h, e⟩
    unfold mark
    rw [bl_big _ _ (by omega) (by omega)]
    congr 1
    apply propext
    split <;> split <;> omega
  · rw [if_neg h]
    exact (Cd.key_rises _ _ a.key b.key h).1
theorem enc_ne {v : Ver} : (encKey v = []) ↔ mayB v = false := by
  unfold encKey
  cases h : mayB v with
  | true => simp [Cd.keyT]
  | false => simp
theorem enc_len (v : Ver) : (encKey v).length ≤ 202 := by
  unfold encKey
  split
  · next h =>
    obtain ⟨_, _, _, h4, _⟩ := may_seq h
    have := Cd.keyGo_len v.key
    rw [List.length_append, Cd.big_len]
    unfold Cd.keyT
    simp
    omega
  · simp
theorem verOf_mark {v : Ver} (h : mayB v = true) : verOf v.key (mark v) = { v with val := [] } := by
  obtain ⟨h1, h2, _⟩ := may_seq h
  obtain ⟨k, q, d, x⟩ := v
  unfold verOf mark
  simp only
  cases d
  · simp only [Ver.mk.injEq, true_and, and_true, Bool.false_eq_true, if_false]
    constructor
    · simp only at h1 h2; omega
    · apply decide_eq_false; simp only at h1 h2; omega
  · simp only [Ver.mk.injEq, true_and, and_true, if_true]
    constructor
    · simp only at h1 h2; omega
    · apply decide_eq_true; simp only at h1 h2; omega
theorem mayB_val {v : Ver} (h : mayB v = true) : mayB { v with val := [] } = true := by
  obtain ⟨h1, h2, h3, h4, h5, h6⟩ := may_seq h
  unfold mayB
  simp [h1, h2, h3, h4]
/-- a place is read again -/
theorem dec_enc {v : Ver} (h : mayB v = true) : decKey (encKey v) = ({ v with val := [] }, 0) := by
  have e : encKey v = Cd.keyT v.key ++ Cd.big (mark v) := by unfold encKey; rw [if_pos h]
  have ht : Cd.takeK (encKey v) = (v.key, (Cd.keyT v.key).length, 0) := by rw [e]; exact Cd.takeK_keyT _ _
  have hw : Cd.wordGo ((encKey v).drop (Cd.keyT v.key).length) = mark v := by
    rw [e, List.drop_left]
    exact Cd.wordGo_big _ (by unfold mark; omega)
  unfold decKey
  rw [ht]
  simp only
  rw [hw, if_pos ⟨trivial, by rw [e, List.length_append, Cd.big_len]⟩, verOf_mark h, if_pos]
  rw [e]
  unfold encKey
  rw [if_pos (mayB_val h)]
  rfl
theorem dec_ok {s : List UInt8} {v : Ver} (h : decKey s = (v, 0)) : encKey v = s ∧ v.val = [] := by
  unfold decKey at h
  split at h
  · split at h
    · next h2 => injection h with h1 _; subst h1; exact ⟨h2, rfl⟩
    · cases (Prod.ext_iff.1 h).2
  · cases (Prod.ext_iff.1 h).2
theorem xor_all (n : Nat) (h : n < 18446744073709551616) : 18446744073709551615 ^^^ n = 18446744073709551615 - n := by
  have h1 := congrArg BitVec.toNat (BitVec.allOnes_xor (x := BitVec.ofNat 64 n))
  rw [BitVec.toNat_xor, BitVec.toNat_not, BitVec.toNat_allOnes, BitVec.toNat_ofNat, Nat.mod_eq_of_lt (by omega)] at h1
  exact h1
theorem turn_all (N : Int) (h0 : 0 ≤ N) (h1 : N < 18446744073709551616) : bits BinOp.xor IntKind.u64 IntKind.u64.max N = 18446744073709551615 - N := by
  obtain ⟨n, rfl⟩ := Int.eq_ofNat_of_zero_le h0
  have e : IntKind.u64.max = ((18446744073709551615 : Nat) : Int) := rfl
  rw [e, u64_xor_nat _ n (by omega) (by omega), xor_all n (by omega)]
  omega
theorem takeKGo_ok : ∀ (n : Nat) (l acc : List UInt8) (k : Nat), l.length ≤ n → (Cd.takeKGo l acc k).1.length ≤ acc.length + l.length ∧ (Cd.takeKGo l acc k).2.1 ≤ k + l.length
  | _, [], acc, k, _ => ⟨Nat.zero_le _, Nat.zero_le _⟩
  | 0, _ :: _, _, _, h => by simp at h
  | n + 1, c :: r, acc, k, h => by
    simp only [List.length_cons] at h ⊢
    by_cases hc : c.toNat = 0
    · cases r with
      | nil => rw [Cd.tk_last hc]; simp
      | cons d r' =>
        by_cases h1 : d.toNat = 1
        · rw [Cd.tk_end hc h1]; simp <;> omega
        · by_cases h2 : d.toNat = 255
          · rw [Cd.tk_zero hc h2]
            have := takeKGo_ok n r' (acc ++ [0]) (k + 2) (by simp at h; omega)
            simp at this ⊢
            omega
          · rw [Cd.tk_bad hc h1 h2]; simp
    · rw [Cd.tk_plain hc]
      have := takeKGo_ok n r (acc ++ [c]) (k + 1) (by omega)
      simp at this ⊢
      omega
theorem takeK_ok (l : List UInt8) : (Cd.takeK l).1.length ≤ l.length ∧ (Cd.takeK l).2.1 ≤ l.length := by
  have := takeKGo_ok l.length l [] 0 (Nat.le_refl _)
  simp at this
  exact this
theorem decKey_at {s key : List UInt8} {n c : Nat} (ht : Cd.takeK s = (key, n, c)) :
    decKey s = if c = 0 ∧ s.length = n + 8 then (if encKey (verOf key (Cd.wordGo (s.drop n))) = s then (verOf key (Cd.wordGo (s.drop n)), 0) else (none', 3)) else (none', 3) := by
  unfold decKey
  rw [ht]
end Tb
end Go.Proofs.Ythcllaombabpbaa

/-
  Rows of versions (four cells each): where they lie, what keeps them, a part of them; lists of versions that came in, opened.
-/
namespace Go.Proofs.Ythcllaombabpbaa
open Go.RowKit
set_option linter.unusedVariables false
namespace Vs
open Gn
open Mt (Ver VerIn verV)
abbrev verT : Gn.Ty := .struct (.cons .str (.cons (.int .u64) (.cons .bool (.cons .str .nil))))
abbrev VD : Type := List UInt8 × Int × Bool × List UInt8 × Unit
def toV (x : VD) : Ver := ⟨x.1, x.2.1, x.2.2.1, x.2.2.2.1⟩
/-- the four cells of a version -/
def At (W : World) (b o : Nat) (x : Ver) : Prop :=
  W.cell? ⟨b, o, none⟩ = some (.string (Cd.bs x.key)) ∧ W.cell? ⟨b, o + 1, none⟩ = some (.int .u64 x.seq) ∧ W.cell? ⟨b, o + 2, none⟩ = some (.bool x.del) ∧ W.cell? ⟨b, o + 3, none⟩ = some (.string (Cd.bs x.val))
theorem At.below {B : Nat} {W W' : World} {b o : Nat} {x : Ver} (h : At W b o x) (hb : Below B W W') (hl : b < B) : At W' b o x := by
  obtain ⟨h1, h2, h3, h4⟩ := h
  exact ⟨(hb.cell (p := ⟨b, o, none⟩) hl).trans h1, (hb.cell (p := ⟨b, o + 1, none⟩) hl).trans h2, (hb.cell (p := ⟨b, o + 2, none⟩) hl).trans h3, (hb.cell (p := ⟨b, o + 3, none⟩) hl).trans h4⟩
/-- versions in a row, in blocks below B -/
def Vers (B : Nat) (W : World) (v : Value) (L : List Ver) : Prop :=
  ∃ (a : Option Addr) (cap b off : Nat), v = .slice a L.length cap ∧ (0 < L.length → a = some ⟨b, off, none⟩ ∧ b < B) ∧ ∀ j (h : j < L.length), At W b (off + j * 4) L[j]
theorem Vers.below {B : Nat} {W W' : World} {v : Value} {L : List Ver} (h : Vers B W v L) (hb : Below B W W') : Vers B W' v L := by
  obtain ⟨a, cap, b, off, h1, h2, h3⟩ := h
  exact ⟨a, cap, b, off, h1, h2, fun j hj => (h3 j hj).below hb (h2 (by omega)).2⟩
theorem Vers.grow {B B' : Nat} {W W' : World} {v : Value} {L : List Ver} (h : Vers B W v L) (hb : Below B W W') (hB : B ≤ B') : Vers B' W' v L := by
  obtain ⟨a, cap, b, off, h1, h2, h3⟩ := h.below hb
  exact ⟨a, cap, b, off, h1, fun h => ⟨(h2 h).1, Nat.lt_of_lt_of_le (h2 h).2 hB⟩, h3⟩
theorem rd_ver {B : Nat} {W : World} {cs : List Value} {x : VD} (h : RdC B W verT cs x) : cs = [.string (Cd.bs (toV x).key), .int .u64 (toV x).seq, .bool (toV x).del, .string (Cd.bs (toV x).val)] ∧ (0 ≤ (toV x).seq ∧ (toV x).seq < 18446744073709551616) := by
  obtain ⟨c1, d1, rfl, _, ⟨rfl, w1⟩, c2, d2, rfl, _, ⟨rfl, w2⟩, c3, d3, rfl, _, rfl, c4, d4, rfl, _, ⟨rfl, w4⟩, rfl⟩ := h
  refine ⟨rfl, ?_⟩
  have w2' : (Lit.int .u64 x.2.1).wf = true := w2
  simp [Lit.wf, IntKind.min, IntKind.max, IntKind.signed, IntKind.bits] at w2'
  exact ⟨w2'.1, by show x.2.1 < _; omega⟩
def vbulk (x : VD) : Nat := x.1.length + 1 + (1 + (1 + (x.2.2.2.1.length + 1 + 0))) + 1
/-- how much a version is -/
def nv (x : Ver) : Nat := x.key.length + x.val.length + 1
/-- versions that came in -/
structure VersIn (W : World) (v : Value) (L : List Ver) : Prop where
  vers : Vers W.heap.size W v L
  each : ∀ x ∈ L, VerIn x
  many : L.length ≤ 1048576
  sum : (L.map nv).sum ≤ 1048576
theorem vers_of_rd {B : Nat} {W : World} {cs : List Value} {X : List VD} (h : RdC B W (.slice verT) cs X) : ∃ v, cs = [v] ∧ Vers B W v (X.map toV) ∧ ∀ x ∈ X, 0 ≤ (toV x).seq ∧ (toV x).seq < 18446744073709551616 := by
  obtain ⟨a, cap, b, off, h1, _, _, h2, h3⟩ := h
  refine ⟨_, h1, ⟨a, cap, b, off, by rw [List.length_map]; rfl, fun h => h2 (by rwa [List.length_map] at h), fun j hj => ?_⟩, fun x hx => ?_⟩
  · rw [List.length_map] at hj
    obtain ⟨cs', g1, g2, g3⟩ := h3 j hj
    obtain ⟨rfl, _⟩ := rd_ver g3
    rw [List.getElem_map]
    exact ⟨g2 0 (by decide), g2 1 (by decide), g2 2 (by decide), g2 3 (by decide)⟩
  · obtain ⟨j, hj, rfl⟩ := List.getElem_of_mem hx
    obtain ⟨cs', g1, g2, g3⟩ := h3 j hj
    exact (rd_ver g3).2
theorem vers_in {X : List VD} {b : Nat} (h : (X.map vbulk).sum + 1 ≤ b) (hb : b ≤ 1048576) (hs : ∀ x ∈ X, 0 ≤ (toV x).seq ∧ (toV x).seq < 18446744073709551616) :
    (∀ x ∈ X.map toV, VerIn x) ∧ (X.map toV).length ≤ 1048576 ∧ ((X.map toV).map nv).sum ≤ 1048576 := by
  have key : ∀ (X : List VD), (∀ x ∈ X, x.1.length + x.2.2.2.1.length + 1 ≤ (X.map vbulk).sum) ∧ ((X.map toV).map nv).sum ≤ (X.map vbulk).sum ∧ X.length ≤ (X.map vbulk).sum := by
    intro X
    induction X with
    | nil => exact ⟨fun p hp => (by cases hp), by simp, by simp⟩
    | cons x r ih =>
      have hx : vbulk x = x.1.length + 1 + (1 + (1 + (x.2.2.2.1.length + 1 + 0))) + 1 := rfl
      have hn : nv (toV x) = x.1.length + x.2.2.2.1.length + 1 := rfl
      simp only [List.map_cons, List.sum_cons, List.length_cons, List.mem_cons]
      refine ⟨fun p hp => ?_, by have := ih.2.1; omega, by have := ih.2.2; omega⟩
      rcases hp with rfl | hp
      · omega
      · have := ih.1 p hp; omega
  obtain ⟨k1, k2, k3⟩ := key X
  refine ⟨fun x hx => ?_, by rw [List.length_map]; omega, by omega⟩
  obtain ⟨y, hy, rfl⟩ := List.mem_map.1 hx
  have := k1 y hy
  obtain ⟨q1, q2⟩ := hs y hy
  exact ⟨by show y.1.length ≤ _; omega, by show y.2.2.2.1.length ≤ _; omega, q1, q2⟩
variable {H : Type} {enc : TypeId × Value → H} {W : World}

set_option maxRecDepth 100000 in
theorem open_vers {B : Nat} {v : Value} {d : DataW H} {p : List MemPlace} {base : Nat} (hv : Value.okWide Try.prog W .any base 28 v)
    (h : DataW.Trod enc Try.prog W 0 (fun _ => true) true 28 v d p) (hlt : ∀ x ∈ p, x.block < W.heap.size) (hB : Rows.uptoBulk d ≤ B) (hB2 : B ≤ 1048576 := by omega) :
    ∃ (u : Value) (L : List Ver), v = u ∧ VersIn W u L := by
  obtain ⟨cs, l, rfl, hx, hb⟩ := open_val (.slice verT) (by kernel_rfl) hv h hB
  replace hb : ((show List VD from l).map vbulk).sum + 1 ≤ B := hb
  obtain ⟨u, hu, hV, hs⟩ := vers_of_rd (X := l) hx
  obtain ⟨k1, k2, k3⟩ := vers_in hb hB2 hs
  cases hu
  exact ⟨u, _, rfl, ⟨hV, k1, k2, k3⟩⟩

set_option maxRecDepth 100000 in
theorem open_ver {B : Nat} {v : Value} {d : DataW H} {p : List MemPlace} {base : Nat} (hv : Value.okWide Try.prog W .any base 44 v)
    (h : DataW.Trod enc Try.prog W 0 (fun _ => true) true 44 v d p) (hlt : ∀ x ∈ p, x.block < W.heap.size) (hB : Rows.uptoBulk d ≤ B) (hB2 : B ≤ 1048576 := by omega) :
    ∃ (x : Ver), v = verV x ∧ VerIn x := by
  obtain ⟨cs, l, rfl, hx, hb⟩ := open_val verT (by kernel_rfl) hv h hB
  obtain ⟨rfl, q⟩ := rd_ver (x := l) hx
  replace hb : vbulk l ≤ B := hb
  have hn : vbulk l = l.1.length + 1 + (1 + (1 + (l.2.2.2.1.length + 1 + 0))) + 1 := rfl
  exact ⟨toV l, rfl, ⟨by show l.1.length ≤ _; omega, by show l.2.2.2.1.length ≤ _; omega, q.1, q.2⟩⟩
/-- a part of a row -/
theorem Vers.at_ {B : Nat} {W : World} {v : Value} {L : List Ver} (h : Vers B W v L) : ∃ (a : Option Addr) (cap b off : Nat), v = .slice a L.length cap ∧ (0 < L.length → a = some ⟨b, off, none⟩ ∧ b < B) ∧ ∀ j (h : j < L.length), At W b (off + j * 4) L[j] := h
end Vs
end Go.Proofs.Ythcllaombabpbaa

/-
  Plain mathematics of chapter 8: blocks of versions (P8.2).
-/
namespace Go.Proofs.Ythcllaombabpbaa
open Go.RowKit
namespace Tb
open Op (bytesLess)
open Mt (Ver mayB lessB placeB VerIn verV)
def ver0 : Ver := ⟨[], 0, false, []⟩
/-- each stands behind the one ahead -/
def ordB (L : List Ver) : Bool := (List.range (L.length - 1)).all fun i => lessB (L.getD i ver0) (L.getD (i + 1) ver0)
/-- such as may be, and in order -/
def rising (L : List Ver) : Nat := if L.all mayB = true then (if ordB L = true then 0 else 8) else 1
/-- a version in a block -/
def ent (v : Ver) (ahead : List UInt8) : List UInt8 :=
  Cd.putU (Cd.common ahead (encKey v)) ++ Cd.putT ((encKey v).drop (Cd.common ahead (encKey v))) ++ (if v.del = true then [] else Cd.putT v.val)
/-- what the version at a place is told behind -/
def ahd (L : List Ver) (i : Nat) : List UInt8 := if i % 16 = 0 then [] else encKey (L.getD (i - 1) ver0)
/-- the first n versions' bytes -/
def blkN (L : List Ver) (n : Nat) : List UInt8 := (List.range n).flatMap fun i => ent (L.getD i ver0) (ahd L i)
def blk (L : List Ver) : List UInt8 := blkN L L.length
/-- P8.2 -/
def encBlk (L : List Ver) : List UInt8 × Nat := if rising L = 0 then (blk L, 0) else ([], rising L)
theorem blkN_succ (L : List Ver) (n : Nat) : blkN L (n + 1) = blkN L n ++ ent (L.getD n ver0) (ahd L n) := by
  unfold blkN
  rw [List.range_succ, List.flatMap_append]
  simp
theorem common_le : ∀ (a b : List UInt8), Cd.common a b ≤ b.length ∧ Cd.common a b ≤ a.length
  | [], b => ⟨Nat.zero_le _, Nat.zero_le _⟩
  | _ :: _, [] => ⟨Nat.zero_le _, Nat.zero_le _⟩
  | x :: a, y :: b => by
    have := common_le a b
    unfold Cd.common
    split <;> simp <;> omega
theorem ent_len {v : Ver} (h : v.val.length ≤ 16384) (ahead : List UInt8) : (ent v ahead).length ≤ 16700 := by
  unfold ent
  have h1 := enc_len v
  have h2 := common_le ahead (encKey v)
  have h3 := Cd.putU_len10 (Cd.common ahead (encKey v)) (by omega)
  have h4 := Cd.putU_len10 ((encKey v).drop (Cd.common ahead (encKey v))).length (by simp; omega)
  have h5 := Cd.putU_len10 v.val.length (by omega)
  have h6 : ((encKey v).drop (Cd.common ahead (encKey v))).length ≤ 202 := by simp; omega
  split <;> simp only [List.length_append, Cd.putT, List.length_nil] <;> omega
theorem blkN_len {L : List Ver} (h : ∀ x ∈ L, x.val.length ≤ 16384) : ∀ n, (blkN L n).length ≤ 16700 * n
  | 0 => by simp [blkN]
  | n + 1 => by
    rw [blkN_succ, List.length_append]
    have := blkN_len h n
    have h2 : (L.getD n ver0).val.length ≤ 16384 := by
      by_cases hn : n < L.length
      · rw [List.getD_eq_getElem?_getD, List.getElem?_eq_getElem hn]; exact h _ (List.getElem_mem hn)
      · rw [List.getD_eq_getElem?_getD, List.getElem?_eq_none (by omega)]; simp [ver0]
    have := ent_len h2 (ahd L n)
    omega
theorem rising_may {L : List Ver} (h : rising L = 0) : ∀ x ∈ L, mayB x = true := by
  unfold rising at h
  split at h
  · next h1 => exact fun x hx => List.all_eq_true.1 h1 x hx
  · cases h
theorem getD_at {L : List Ver} {i : Nat} (h : i < L.length) : L.getD i ver0 = L[i] := by
  rw [List.getD_eq_getElem?_getD, List.getElem?_eq_getElem h]; rfl
end Tb
end Go.Proofs.Ythcllaombabpbaa

/-
  Plain mathematics of chapter 9 (merge): groups, what is kept, what is seen, lists that are cut; told version by version.
-/
namespace Go.Proofs.Ythcllaombabpbaa
open Go.RowKit
namespace Mg
open Op (bytesLess)
open Mt (Ver mayB lessB placeB VerIn verV)
open Tb (ver0 getD_at)
/-- does a group begin with it? -/
def newG (L : List Ver) (i : Nat) : Bool := decide (i = 0) || (L.getD i ver0).key != (L.getD (i - 1) ver0).key
/-- where the groups of the first n begin -/
def grpN (L : List Ver) (n : Nat) : List Nat := (List.range n).filter (newG L)
/-- P9.2: where the groups begin, and the end -/
def grp (L : List Ver) : List Nat := grpN L L.length ++ [L.length]
/-- less the deleted ones at the end, if it is the bottom -/
def trim (bottom : Bool) (l : List Ver) : List Ver := if bottom = true then (l.reverse.dropWhile (·.del)).reverse else l
def seenAt (fl : List Int) (L : List Ver) (i : Nat) : Bool := fl.any fun f => decide ((L.getD i ver0).seq ≤ f) && decide (f < (L.getD (i - 1) ver0).seq)
/-- one version more: what is told, and what is needed of the group at hand -/
def kpStep (fl : List Int) (bottom : Bool) (L : List Ver) (st : List Ver × List Ver) (i : Nat) : List Ver × List Ver :=
  if newG L i = true then (st.1 ++ trim bottom st.2, [L.getD i ver0]) else (st.1, st.2 ++ if seenAt fl L i = true then [L.getD i ver0] else [])
def kpN (fl : List Int) (bottom : Bool) (L : List Ver) (n : Nat) : List Ver × List Ver := (List.range n).foldl (kpStep fl bottom L) ([], [])
/-- what is told of the first n, if no more follows -/
def kpF (fl : List Int) (bottom : Bool) (L : List Ver) (n : Nat) : List Ver := (kpN fl bottom L n).1 ++ trim bottom (kpN fl bottom L n).2
/-- P9.2 -/
def keep (L : List Ver) (fl : List Int) (bottom : Bool) : List Ver := kpF fl bottom L L.length
/-- those below hi -/
def below (L : List Ver) (hi : List UInt8) : List Ver := L.takeWhile fun v => hi.isEmpty || bytesLess v.key hi
/-- one version more: what is told, and whether the group at hand has been -/
def prStep (seq : Int) (lo : List UInt8) (L : List Ver) (st : List (List UInt8 × List UInt8) × Bool) (i : Nat) : List (List UInt8 × List UInt8) × Bool :=
  if (newG L i = false ∧ st.2 = true) ∨ bytesLess (L.getD i ver0).key lo = true ∨ seq < (L.getD i ver0).seq then (st.1, !newG L i && st.2)
  else (st.1 ++ (if (L.getD i ver0).del = true then [] else [((L.getD i ver0).key, (L.getD i ver0).val)]), true)
def prN (seq : Int) (lo : List UInt8) (L : List Ver) (n : Nat) : List (List UInt8 × List UInt8) × Bool := (List.range n).foldl (prStep seq lo L) ([], false)
/-- P9.3 -/
def pairs (L : List Ver) (seq : Int) (lo hi : List UInt8) : List (List UInt8 × List UInt8) := (prN seq lo (below L hi) (below L hi).length).1
/-- how many bytes versions have -/
def bytes (l : List Ver) : Nat := (l.map fun v => v.key.length + v.val.length + 16).sum
/-- one version more: the lists (where each begins, how many it has); where the one at hand begins -/
def ctStep (b : Int) (L : List Ver) (st : List (Nat × Nat) × Nat) (i : Nat) : List (Nat × Nat) × Nat :=
  if i + 1 = L.length ∨ (newG L (i + 1) = true ∧ b ≤ (bytes ((L.drop st.2).take (i + 1 - st.2)) : Int)) then (st.1 ++ [(st.2, i + 1 - st.2)], i + 1) else st
def ctN (b : Int) (L : List Ver) (n : Nat) : List (Nat × Nat) × Nat := (List.range n).foldl (ctStep b L) ([], 0)
/-- P9.4 -/
def cut (L : List Ver) (b : Int) : List (Nat × Nat) := (ctN b L L.length).1

theorem kpN_succ (fl : List Int) (bottom : Bool) (L : List Ver) (n : Nat) : kpN fl bottom L (n + 1) = kpStep fl bottom L (kpN fl bottom L n) n := by
  unfold kpN; rw [List.range_succ, List.foldl_append]; rfl
theorem prN_succ (seq : Int) (lo : List UInt8) (L : List Ver) (n : Nat) : prN seq lo L (n + 1) = prStep seq lo L (prN seq lo L n) n := by
  unfold prN; rw [List.range_succ, List.foldl_append]; rfl
theorem ctN_succ (b : Int) (L : List Ver) (n : Nat) : ctN b L (n + 1) = ctStep b L (ctN b L n) n := by
  unfold ctN; rw [List.range_succ, List.foldl_append]; rfl
theorem grpN_succ (L : List Ver) (n : Nat) : grpN L (n + 1) = grpN L n ++ (if newG L n = true then [n] else []) := by
  unfold grpN
  rw [List.range_succ, List.filter_append]
  congr 1
  cases h : newG L n <;> simp [h]
theorem grpN_len (L : List Ver) (n : Nat) : (grpN L n).length ≤ n := by
  have := List.length_filter_le (newG L) (List.range n)
  simpa [grpN] using this
theorem grpN_mem {L : List Ver} {n i : Nat} : i ∈ grpN L n ↔ i < n ∧ newG L i = true := by
  unfold grpN; rw [List.mem_filter, List.mem_range]
theorem grpN_sorted (L : List Ver) (n : Nat) : (grpN L n).Pairwise (· < ·) := List.Pairwise.filter _ List.pairwise_lt_range
theorem grp_len (L : List Ver) : (grp L).length = (grpN L L.length).length + 1 := by simp [grp]
theorem grp_sorted (L : List Ver) : (grp L).Pairwise (· < ·) := by
  unfold grp
  rw [List.pairwise_append]
  refine ⟨grpN_sorted _ _, by simp, fun a ha b hb => ?_⟩
  simp at hb; subst hb
  exact (grpN_mem.1 ha).1
/-- the k-th group: where it begins, where the next one does, and what lies between -/
theorem grp_at (L : List Ver) {k : Nat} (hk : k + 1 < (grp L).length) :
    (grp L)[k] < (grp L)[k + 1] ∧ (grp L)[k + 1] ≤ L.length ∧ newG L (grp L)[k] = true ∧ (∀ i, (grp L)[k] < i → i < (grp L)[k + 1] → newG L i = false) ∧ ((grp L)[k + 1] < L.length → newG L (grp L)[k + 1] = true) := by
  have hs := grp_sorted L
  have hl := grp_len L
  have h1 : (grp L)[k] < (grp L)[k + 1] := List.pairwise_iff_getElem.1 hs k (k + 1) (by omega) hk (by omega)
  have hin : ∀ j (hj : j < (grpN L L.length).length), (grp L)[j]'(by omega) ∈ grpN L L.length := fun j hj => by
    have : (grp L)[j]'(by omega) = (grpN L L.length)[j] := by simp [grp, List.getElem_append_left hj]
    rw [this]; exact List.getElem_mem hj
  have hk1 := grpN_mem.1 (hin k (by omega))
  have hle : (grp L)[k + 1] ≤ L.length := by
    by_cases h : k + 1 < (grpN L L.length).length
    · exact Nat.le_of_lt (grpN_mem.1 (hin (k + 1) h)).1
    · have e : k + 1 = (grpN L L.length).length := by omega
      have : (grp L)[k + 1] = L.length := by simp [grp, List.getElem_append_right, e]
      omega
  refine ⟨h1, hle, hk1.2, fun i hi1 hi2 => ?_, fun hlt => ?_⟩
  · rw [Bool.eq_false_iff]
    intro hn
    have him : i ∈ grp L := List.mem_append_left _ (grpN_mem.2 ⟨by omega, hn⟩)
    obtain ⟨j, hj, rfl⟩ := List.getElem_of_mem him
    have mono : ∀ a b (ha : a < (grp L).length) (hb : b < (grp L).length), a ≤ b → (grp L)[a] ≤ (grp L)[b] := fun a b ha hb hab => by
      rcases Nat.lt_or_eq_of_le hab with h | h
      · exact Nat.le_of_lt (List.pairwise_iff_getElem.1 hs a b ha hb h)
      · subst h; exact Nat.le_refl _
    by_cases hjk : j ≤ k
    · have := mono j k hj (by omega) hjk; omega
    · have := mono (k + 1) j hk hj (by omega); omega
  · by_cases h : k + 1 < (grpN L L.length).length
    · exact (grpN_mem.1 (hin (k + 1) h)).2
    · have e : k + 1 = (grpN L L.length).length := by omega
      have : (grp L)[k + 1] = L.length := by simp [grp, List.getElem_append_right, e]
      omega
theorem grp_first (L : List Ver) : (grp L)[0]'(by rw [grp_len]; omega) = 0 := by
  by_cases hL : L.length = 0
  · obtain rfl := List.eq_nil_of_length_eq_zero hL
    rfl
  · have h0 : (0 : Nat) ∈ grpN L L.length := grpN_mem.2 ⟨by omega, by simp [newG]⟩
    have hs := grp_sorted L
    obtain ⟨j, hj, he⟩ := List.getElem_of_mem (List.mem_append_left [L.length] h0)
    have hj2 : j < (grp L).length := hj
    have he2 : (grp L)[j] = 0 := he
    by_cases h : j = 0
    · subst h; exact he2
    · have := List.pairwise_iff_getElem.1 hs 0 j (by omega) hj2 (by omega)
      omega
theorem grp_last (L : List Ver) : (grp L)[(grp L).length - 1]'(by rw [grp_len]; omega) = L.length := by
  simp [grp]
end Mg
end Go.Proofs.Ythcllaombabpbaa

/-
  Plain mathematics of chapter 9: what the loops over groups need.
-/
namespace Go.Proofs.Ythcllaombabpbaa
open Go.RowKit
namespace Mg
open Op (bytesLess)
open Mt (Ver mayB lessB placeB VerIn verV)
open Tb (ver0 getD_at)
theorem key_group {L : List Ver} {a b : Nat} (hn : ∀ i, a < i → i < b → newG L i = false) : ∀ i, a ≤ i → i < b → (L.getD i ver0).key = (L.getD a ver0).key := by
  intro i hi hb
  induction i with
  | zero => have : a = 0 := by omega
            rw [this]
  | succ i ih =>
    by_cases h : a = i + 1
    · rw [h]
    · have h1 := hn (i + 1) (by omega) hb
      unfold newG at h1
      simp only [Nat.add_sub_cancel, Bool.or_eq_false_iff] at h1
      have h2 : (L.getD (i + 1) ver0).key = (L.getD i ver0).key := by simpa using h1.2
      rw [h2]
      exact ih (by omega) (by omega)
theorem prN_rest {seq : Int} {lo : List UInt8} {L : List Ver} {i : Nat} (h2 : (prN seq lo L i).2 = true) : ∀ b, i ≤ b → (∀ j, i ≤ j → j < b → newG L j = false) → prN seq lo L b = prN seq lo L i := by
  intro b
  induction b with
  | zero => intro h _; have : i = 0 := by omega
            rw [this]
  | succ b ih =>
    intro h hn
    by_cases he : i = b + 1
    · rw [he]
    · have hb := ih (by omega) (fun j h1 h2 => hn j h1 (by omega))
      rw [prN_succ, hb]
      unfold prStep
      have hng := hn b (by omega) (by omega)
      rw [if_pos (.inl ⟨hng, h2⟩), hng, h2]
      ext1
      · rfl
      · simp [h2]
theorem prN_low {seq : Int} {lo : List UInt8} {L : List Ver} {i : Nat} : ∀ b, i ≤ b → (∀ j, i ≤ j → j < b → bytesLess (L.getD j ver0).key lo = true) → (prN seq lo L b).1 = (prN seq lo L i).1 := by
  intro b
  induction b with
  | zero => intro h _; have : i = 0 := by omega
            rw [this]
  | succ b ih =>
    intro h hn
    by_cases he : i = b + 1
    · rw [he]
    · have hb := ih (by omega) (fun j h1 h2 => hn j h1 (by omega))
      rw [prN_succ]
      unfold prStep
      rw [if_pos (.inr (.inl (hn b (by omega) (by omega))))]
      exact hb
theorem takeWhile_at {α : Type} (p : α → Bool) : ∀ (L : List α) (q : Nat), q ≤ L.length → (∀ x ∈ L.take q, p x = true) → (∀ h : q < L.length, p L[q] = false) → L.takeWhile p = L.take q
  | [], q, _, _, _ => by simp
  | x :: r, 0, _, _, h => by
    have := h (by simp)
    simp only [List.getElem_cons_zero] at this
    simp [this]
  | x :: r, q + 1, hq, ha, h => by
    have hx := ha x (by simp)
    rw [List.takeWhile_cons, hx, List.take_succ_cons, if_pos rfl, takeWhile_at p r q (by simpa using hq) (fun y hy => ha y (by simp [hy])) (fun hl => by have := h (by simpa using hl); simpa using this)]
theorem prN_len (seq : Int) (lo : List UInt8) (L : List Ver) : ∀ n, (prN seq lo L n).1.length ≤ n
  | 0 => Nat.le_refl _
  | n + 1 => by
    have := prN_len seq lo L n
    rw [prN_succ]
    unfold prStep
    split
    · exact Nat.le_succ_of_le this
    · simp only [List.length_append]
      split <;> simp <;> omega
end Mg
end Go.Proofs.Ythcllaombabpbaa

/-
  Plain mathematics of chapter 7 (bloom): hashes, places, filters; what was built in is never denied.
-/
namespace Go.Proofs.Ythcllaombabpbaa
open Go.RowKit
namespace Bm
/-- P7.1, as the walk spells it -/
def hashGo : List UInt8 → Int → Int
  | [], h => h
  | c :: r, h => hashGo r (IntKind.u64.wrap (bits BinOp.xor IntKind.u64 h (c.toNat : Int) * 1099511628211))
def hash (l : List UInt8) : Int := mixOf (hashGo l 14695981039346656037)
def dOf (h : Int) : Int := bits BinOp.or IntKind.u64 (IntKind.u64.wrap (h * 2 ^ 31)) (h / 2 ^ 33)
def placesGo : Nat → Int → Int → Int → List Int
  | 0, _, _, _ => []
  | k + 1, h, d, m => (h % m) :: placesGo k (IntKind.u64.wrap (h + d)) d m
/-- P7.3: a key's bits, k of them, in a filter of m bits -/
def places (key : List UInt8) (k : Nat) (m : Int) : List Int := placesGo k (hash key) (dOf (hash key)) m
/-- a byte with one bit more -/
def orB (x : UInt8) (i : Nat) : UInt8 := UInt8.ofNat (x.toNat ||| 2 ^ (i % 8))
def setB (l : List UInt8) (i : Nat) : List UInt8 := l.set (1 + i / 8) (orB (l.getD (1 + i / 8) 0) i)
def setAll (l : List UInt8) (is : List Int) : List UInt8 := is.foldl (fun l i => setB l i.toNat) l
def fill (k : Nat) (m : Int) (l : List UInt8) (keys : List (List UInt8)) : List UInt8 := keys.foldl (fun l key => setAll l (places key k m)) l
def kOf (b : Int) : Nat := (max (min b 20 * 69 / 100) 1).toNat
/-- how many bytes the bits take -/
def bytesOf (b : Int) (n : Nat) : Nat := ((max (min b 20 * (n : Int)) 64).toNat + 7) / 8
/-- P7.4 -/
def build (b : Int) (keys : List (List UInt8)) : List UInt8 :=
  if b < 1 ∨ keys = [] then [] else fill (kOf b) (8 * (bytesOf b keys.length : Nat)) (UInt8.ofNat (kOf b) :: List.replicate (bytesOf b keys.length) 0) keys
/-- P7.2 -/
def valid (s : List UInt8) : Bool := decide (s = []) || (decide (9 ≤ s.length) && decide (1 ≤ (s.getD 0 0).toNat) && decide ((s.getD 0 0).toNat ≤ 30))
def bitB (s : List UInt8) (i : Nat) : Bool := decide ((s.getD (1 + i / 8) 0).toNat / 2 ^ (i % 8) % 2 = 1)
/-- P7.5 -/
def has (s key : List UInt8) : Bool := if valid s = false ∨ s = [] then true else (places key (s.getD 0 0).toNat (8 * ((s.length : Int) - 1))).all fun i => bitB s i.toNat
def load (s : List UInt8) : Nat × Nat := if valid s = false ∨ s = [] then (0, 0) else (((List.range (8 * (s.length - 1))).filter fun i => bitB s i).length, 8 * (s.length - 1))

theorem setB_len (l : List UInt8) (i : Nat) : (setB l i).length = l.length := by simp [setB]
theorem setAll_len (is : List Int) : ∀ l, (setAll l is).length = l.length := by
  induction is with
  | nil => intro l; rfl
  | cons i r ih => intro l; exact (ih _).trans (setB_len _ _)
theorem fill_len (k : Nat) (m : Int) (keys : List (List UInt8)) : ∀ l, (fill k m l keys).length = l.length := by
  induction keys with
  | nil => intro l; rfl
  | cons x r ih => intro l; exact (ih _).trans (setAll_len _ _)
theorem places_in : ∀ (k : Nat) (h d m : Int), 0 < m → ∀ i ∈ placesGo k h d m, 0 ≤ i ∧ i < m
  | 0, _, _, _, _, i, hi => by cases hi
  | k + 1, h, d, m, hm, i, hi => by
    rcases List.mem_cons.1 hi with rfl | hi
    · exact ⟨Int.emod_nonneg _ (by omega), Int.emod_lt_of_pos _ hm⟩
    · exact places_in k _ d m hm i hi
theorem placesGo_len : ∀ (k : Nat) (h d m : Int), (placesGo k h d m).length = k
  | 0, _, _, _ => rfl
  | k + 1, h, d, m => by rw [placesGo, List.length_cons, placesGo_len k]
/-! ### bytes, one within another -/
/-- all bits of x are y's -/
def Sub (x y : UInt8) : Prop := x ||| y = y
theorem Sub.refl (x : UInt8) : Sub x x := by unfold Sub; simp
theorem Sub.trans {x y z : UInt8} (h : Sub x y) (k : Sub y z) : Sub x z := by unfold Sub at *; rw [← k, ← UInt8.or_assoc, h]
theorem orB_eq (x : UInt8) (i : Nat) : orB x i = x ||| UInt8.ofNat (2 ^ (i % 8)) := by
  unfold orB
  apply UInt8.toNat_inj.1
  have h8 : i % 8 < 8 := Nat.mod_lt _ (by omega)
  have hp : 2 ^ (i % 8) < 256 := Nat.lt_of_lt_of_le (Nat.pow_lt_pow_right (by omega) h8) (Nat.le_refl _)
  have hx := x.toNat_lt
  have := Nat.or_lt_two_pow (x := x.toNat) (y := 2 ^ (i % 8)) (n := 8) (by omega) (by omega)
  rw [UInt8.toNat_or, UInt8.toNat_ofNat', UInt8.toNat_ofNat']
  have e1 : (2 ^ (i % 8)) % 2 ^ 8 = 2 ^ (i % 8) := Nat.mod_eq_of_lt (by omega)
  have e2 : (x.toNat ||| 2 ^ (i % 8)) % 2 ^ 8 = (x.toNat ||| 2 ^ (i % 8)) := Nat.mod_eq_of_lt (by omega)
  rw [e1, e2]
theorem sub_or (x : UInt8) (i : Nat) : Sub x (orB x i) := by rw [orB_eq]; unfold Sub; rw [← UInt8.or_assoc]; simp
theorem or_sub {x y : UInt8} (h : Sub x y) (i : Nat) : Sub (orB x i) (orB y i) := by
  rw [orB_eq, orB_eq]; unfold Sub at *
  rw [UInt8.or_assoc, ← UInt8.or_assoc (UInt8.ofNat _) y, UInt8.or_comm (UInt8.ofNat _) y, UInt8.or_assoc y, ← UInt8.or_assoc x, h]; simp
/-- all bits of a are b's, behind the head -/
def SubL (a b : List UInt8) : Prop := a.length = b.length ∧ ∀ j, 1 ≤ j → Sub (a.getD j 0) (b.getD j 0)
theorem SubL.refl (a : List UInt8) : SubL a a := ⟨rfl, fun _ _ => Sub.refl _⟩
theorem SubL.trans {a b c : List UInt8} (h : SubL a b) (k : SubL b c) : SubL a c := ⟨h.1.trans k.1, fun j hj => (h.2 j hj).trans (k.2 j hj)⟩
theorem getD_set (l : List UInt8) (k j : Nat) (x : UInt8) : (l.set k x).getD j 0 = if k = j ∧ j < l.length then x else l.getD j 0 := by
  simp only [List.getD_eq_getElem?_getD, List.getElem?_set]
  by_cases h : k = j
  · subst h
    by_cases h2 : k < l.length
    · simp [h2]
    · simp [h2]
  · simp [h]
theorem subL_set (l : List UInt8) (i : Nat) : SubL l (setB l i) := by
  refine ⟨(setB_len _ _).symm, fun j _ => ?_⟩
  unfold setB
  rw [getD_set]
  split
  · rename_i h; rw [h.1]; exact sub_or _ _
  · exact Sub.refl _
theorem subL_setAll (is : List Int) : ∀ l, SubL l (setAll l is) := by
  induction is with
  | nil => intro l; exact SubL.refl _
  | cons i r ih => intro l; exact (subL_set l i.toNat).trans (ih _)
theorem subL_fill (k : Nat) (m : Int) (keys : List (List UInt8)) : ∀ l, SubL l (fill k m l keys) := by
  induction keys with
  | nil => intro l; exact SubL.refl _
  | cons x r ih => intro l; exact (subL_setAll _ l).trans (ih _)
theorem fill_app (k : Nat) (m : Int) (l : List UInt8) (a b : List (List UInt8)) : fill k m l (a ++ b) = fill k m (fill k m l a) b := by simp [fill]
theorem bit_or (x : UInt8) (i : Nat) : (orB x i).toNat / 2 ^ (i % 8) % 2 = 1 := by
  have h8 : i % 8 < 8 := Nat.mod_lt _ (by omega)
  have hp : 2 ^ (i % 8) < 256 := Nat.lt_of_lt_of_le (Nat.pow_lt_pow_right (by omega) h8) (Nat.le_refl _)
  have hx := x.toNat_lt
  have := Nat.or_lt_two_pow (x := x.toNat) (y := 2 ^ (i % 8)) (n := 8) (by omega) (by omega)
  unfold orB
  have e2 : (x.toNat ||| 2 ^ (i % 8)) % 2 ^ 8 = (x.toNat ||| 2 ^ (i % 8)) := Nat.mod_eq_of_lt (by omega)
  rw [UInt8.toNat_ofNat', e2]
  have ht : (x.toNat ||| 2 ^ (i % 8)).testBit (i % 8) = true := by simp
  rw [Nat.testBit_eq_decide_div_mod_eq] at ht
  simpa using ht
theorem bit_sub {x y : UInt8} (h : Sub x y) (e : Nat) (hb : x.toNat / 2 ^ e % 2 = 1) : y.toNat / 2 ^ e % 2 = 1 := by
  have h1 : (x.toNat ||| y.toNat) = y.toNat := by rw [← UInt8.toNat_or, h]
  have ht : x.toNat.testBit e = true := by rw [Nat.testBit_eq_decide_div_mod_eq]; simpa using hb
  have h2 : y.toNat.testBit e = true := by rw [← h1, Nat.testBit_or, ht]; simp
  rw [Nat.testBit_eq_decide_div_mod_eq] at h2
  simpa using h2
theorem bitB_sub {a b : List UInt8} (h : SubL a b) (i : Nat) (hb : bitB a i = true) : bitB b i = true := by
  unfold bitB at *
  exact decide_eq_true (bit_sub (h.2 (1 + i / 8) (by omega)) _ (of_decide_eq_true hb))
theorem bitB_set (l : List UInt8) (i : Nat) (hi : 1 + i / 8 < l.length) : bitB (setB l i) i = true := by
  unfold bitB setB
  rw [getD_set, if_pos ⟨rfl, hi⟩]
  exact decide_eq_true (bit_or _ _)
theorem bits_setAll : ∀ (is : List Int) (l : List UInt8), (∀ i ∈ is, 1 + i.toNat / 8 < l.length) → ∀ i ∈ is, bitB (setAll l is) i.toNat = true
  | [], _, _, i, hi => by cases hi
  | x :: r, l, h, i, hi => by
    rcases List.mem_cons.1 hi with rfl | hi
    · exact bitB_sub (subL_setAll r _) _ (bitB_set l _ (h i (List.mem_cons_self ..)))
    · exact bits_setAll r (setB l x.toNat) (fun j hj => by rw [setB_len]; exact h j (List.mem_cons_of_mem _ hj)) i hi
theorem bits_fill (k : Nat) (m : Int) (hm : 0 < m) : ∀ (keys : List (List UInt8)) (l : List UInt8), m ≤ 8 * ((l.length : Int) - 1) → ∀ key ∈ keys, ∀ i ∈ places key k m, bitB (fill k m l keys) i.toNat = true
  | [], _, _, key, hk => by cases hk
  | x :: r, l, hl, key, hk => by
    intro i hi
    rcases List.mem_cons.1 hk with rfl | hk
    · refine bitB_sub (subL_fill k m r _) _ (bits_setAll (places key k m) l (fun j hj => ?_) i hi)
      have := places_in k _ _ m hm j hj
      omega
    · exact bits_fill k m hm r (setAll l (places x k m)) (by rw [setAll_len]; exact hl) key hk i hi
theorem head_set (l : List UInt8) (i : Nat) : (setB l i).getD 0 0 = l.getD 0 0 := by
  unfold setB; rw [getD_set, if_neg (by omega)]
theorem head_setAll (is : List Int) : ∀ l, (setAll l is).getD 0 0 = l.getD 0 0 := by
  induction is with
  | nil => intro l; rfl
  | cons i r ih => intro l; exact (ih _).trans (head_set _ _)
theorem head_fill (k : Nat) (m : Int) (keys : List (List UInt8)) : ∀ l, (fill k m l keys).getD 0 0 = l.getD 0 0 := by
  induction keys with
  | nil => intro l; rfl
  | cons x r ih => intro l; exact (ih _).trans (head_setAll _ _)
theorem kOf_in (b : Int) : 1 ≤ kOf b ∧ kOf b ≤ 13 := by unfold kOf; omega
theorem bytesOf_in (b : Int) (n : Nat) : 8 ≤ bytesOf b n := by unfold bytesOf; omega
theorem build_len {b : Int} {keys : List (List UInt8)} (h : ¬ (b < 1 ∨ keys = [])) : (build b keys).length = 1 + bytesOf b keys.length := by
  unfold build; rw [if_neg h, fill_len]; simp; omega
theorem build_head {b : Int} {keys : List (List UInt8)} (h : ¬ (b < 1 ∨ keys = [])) : ((build b keys).getD 0 0).toNat = kOf b := by
  unfold build; rw [if_neg h, head_fill]
  have := kOf_in b
  simp only [List.getD_cons_zero, UInt8.toNat_ofNat']
  omega
theorem build_valid (b : Int) (keys : List (List UInt8)) : valid (build b keys) = true := by
  by_cases h : b < 1 ∨ keys = []
  · unfold build; rw [if_pos h]; rfl
  · have h1 := build_len h
    have h2 := build_head h
    have h3 := kOf_in b
    have h4 := bytesOf_in b keys.length
    unfold valid
    rw [h2]
    simp only [Bool.or_eq_true, Bool.and_eq_true, decide_eq_true_eq]
    exact .inr ⟨⟨by omega, by omega⟩, by omega⟩
/-- P7.6 -/
theorem has_build (b : Int) (keys : List (List UInt8)) (key : List UInt8) (hk : key ∈ keys) : has (build b keys) key = true := by
  unfold has
  split
  · rfl
  · rename_i hx
    by_cases h : b < 1 ∨ keys = []
    · exact absurd (.inr (by unfold build; rw [if_pos h])) hx
    · have h1 := build_len h
      have h4 := bytesOf_in b keys.length
      rw [build_head h, List.all_eq_true]
      have hm : (8 * (((build b keys).length : Int) - 1)) = 8 * (bytesOf b keys.length : Nat) := by omega
      rw [hm]
      intro i hi
      unfold build
      rw [if_neg h]
      exact bits_fill (kOf b) _ (by omega) keys _ (by simp) key hk i hi
theorem build_nil {b : Int} {keys : List (List UInt8)} (hk : keys ≠ []) : (build b keys = []) ↔ b < 1 := by
  constructor
  · intro h
    by_cases hb : b < 1
    · exact hb
    · have h1 := build_len (b := b) (keys := keys) (fun h => h.elim hb hk)
      rw [h] at h1; simp at h1; omega
  · intro h; unfold build; rw [if_pos (.inl h)]
theorem load_le (s : List UInt8) : (load s).1 ≤ (load s).2 := by
  unfold load
  split
  · exact Nat.le_refl _
  · have := List.length_filter_le (fun i => bitB s i) (List.range (8 * (s.length - 1)))
    simpa using this
theorem load_build {b : Int} {keys : List (List UInt8)} (h : ¬ (b < 1 ∨ keys = [])) : 1 ≤ (load (build b keys)).1 := by
  have hne : ¬ (valid (build b keys) = false ∨ build b keys = []) := by
    rw [build_valid]
    have := build_len h
    intro hx
    rcases hx with hx | hx
    · cases hx
    · rw [hx] at this; simp at this; omega
  obtain ⟨x, hx⟩ := List.exists_mem_of_ne_nil keys (fun e => h (.inr e))
  have hk := kOf_in b
  have hl := build_len h
  have hb8 := bytesOf_in b keys.length
  have hbits := bits_fill (kOf b) (8 * (bytesOf b keys.length : Nat)) (by omega) keys (UInt8.ofNat (kOf b) :: List.replicate (bytesOf b keys.length) 0) (by simp) x hx
  have hp : 0 < (places x (kOf b) (8 * (bytesOf b keys.length : Nat))).length := by unfold places; rw [placesGo_len]; omega
  have hmem := List.getElem_mem hp
  have hin := places_in _ _ _ (8 * ((bytesOf b keys.length : Nat) : Int)) (by omega) _ hmem
  have hb := hbits _ hmem
  generalize (places x (kOf b) (8 * (bytesOf b keys.length : Nat)))[0] = i at *
  unfold load
  rw [if_neg hne]
  refine List.length_pos_iff.2 (fun e => ?_)
  have : i.toNat ∈ (List.range (8 * ((build b keys).length - 1))).filter fun i => bitB (build b keys) i := by
    rw [List.mem_filter, List.mem_range]
    refine ⟨by omega, ?_⟩
    unfold build
    rw [if_neg h]
    exact hb
  rw [e] at this
  cases this
/-- P7.4: of as many bytes, a filter of more keys has all bits of the one of fewer -/
theorem build_union {b : Int} {keys : List (List UInt8)} (n : Nat) (hlen : (build b (keys.take n)).length = (build b keys).length) (hne : build b (keys.take n) ≠ []) : SubL (build b (keys.take n)) (build b keys) ∧ (build b (keys.take n)).getD 0 0 = (build b keys).getD 0 0 := by
  have h1 : ¬ (b < 1 ∨ keys.take n = []) := fun h => hne (by unfold build; rw [if_pos h])
  have h2 : ¬ (b < 1 ∨ keys = []) := fun h => h.elim (fun h => h1 (.inl h)) (fun h => h1 (.inr (by rw [h]; simp)))
  rw [build_len h1, build_len h2] at hlen
  have hb : bytesOf b (keys.take n).length = bytesOf b keys.length := by omega
  have e : build b keys = fill (kOf b) (8 * (bytesOf b keys.length : Nat)) (build b (keys.take n)) (keys.drop n) := by
    unfold build
    rw [if_neg h1, if_neg h2, hb, ← fill_app, List.take_append_drop]
  exact ⟨by rw [e]; exact subL_fill _ _ _ _, by rw [e, head_fill]⟩
end Bm
end Go.Proofs.Ythcllaombabpbaa

/-
  Plain mathematics of chapter 8: a table's blocks, index, foot (P8.3).
-/
namespace Go.Proofs.Ythcllaombabpbaa
open Go.RowKit
namespace Tb
open Mt (Ver mayB lessB placeB VerIn verV)
set_option linter.unusedSimpArgs false
/-- one version more: does the block at hand end with it? (the blocks: where each begins, how many it has; where the one at hand begins) -/
def cutStep (block : Int) (L : List Ver) (st : List (Nat × Nat) × Nat) (i : Nat) : List (Nat × Nat) × Nat :=
  if block ≤ ((blk ((L.drop st.2).take (i + 1 - st.2))).length : Int) ∨ i + 1 = L.length then (st.1 ++ [(st.2, i + 1 - st.2)], i + 1) else st
def cutN (block : Int) (L : List Ver) (n : Nat) : List (Nat × Nat) × Nat := (List.range n).foldl (cutStep block L) ([], 0)
/-- the blocks of a list -/
def cuts (block : Int) (L : List Ver) : List (Nat × Nat) := (cutN block L L.length).1
def part (L : List Ver) (p : Nat × Nat) : List Ver := (L.drop p.1).take p.2
def dataF (L : List Ver) (p : Nat × Nat) : List UInt8 := (Fr.put 3 (blk (part L p))).1
def lastOf (L : List Ver) (p : Nat × Nat) : Ver := { L.getD (p.1 + p.2 - 1) ver0 with val := [] }
def spanB (pos : Nat) (L : List Ver) (p : Nat × Nat) : List UInt8 := Cd.putU pos ++ Cd.putU (dataF L p).length ++ Cd.putU p.2 ++ Cd.putT (encKey (lastOf L p))
def bodyStep (L : List Ver) (st : List UInt8 × List UInt8) (p : Nat × Nat) : List UInt8 × List UInt8 := (st.1 ++ dataF L p, st.2 ++ spanB st.1.length L p)
/-- the data's frames, and the index, of the first blocks -/
def bodyN (L : List Ver) (ps : List (Nat × Nat)) (n : Nat) : List UInt8 × List UInt8 := (ps.take n).foldl (bodyStep L) ([], Cd.putU ps.length)
def keyN (L : List Ver) (n : Nat) : List (List UInt8) := ((List.range n).filter fun i => decide (i = 0) || (L.getD i ver0).key != (L.getD (i - 1) ver0).key).map fun i => (L.getD i ver0).key
/-- the keys, each once -/
def keyL (L : List Ver) : List (List UInt8) := keyN L L.length
def footB (L : List Ver) (a b : Nat) : List UInt8 := Cd.putU a ++ Cd.putU b ++ Cd.putU L.length ++ Cd.putT (L.getD 0 ver0).key ++ Cd.putT (L.getD (L.length - 1) ver0).key
def wholeB (L : List Ver) (s ix fl : List UInt8) : List UInt8 :=
  s ++ (Fr.put 5 fl).1 ++ (Fr.put 4 ix).1 ++ (Fr.put 6 (footB L s.length (s ++ (Fr.put 5 fl).1).length)).1 ++ Fr.lit ((s ++ (Fr.put 5 fl).1 ++ (Fr.put 4 ix).1).length % 4294967296)
/-- P8.3 -/
def buildT (block bits : Int) (L : List Ver) : List UInt8 × Nat :=
  if (block < 64 ∨ 4096 < block) ∨ (bits < 0 ∨ 20 < bits) ∨ L = [] then ([], 1) else
  if rising L ≠ 0 then ([], rising L) else
  if 262144 < (bodyN L (cuts block L) (cuts block L).length).2.length ∨ 262144 < (Bm.build bits (keyL L)).length then ([], 5) else
  if 16777216 < (wholeB L (bodyN L (cuts block L) (cuts block L).length).1 (bodyN L (cuts block L) (cuts block L).length).2 (Bm.build bits (keyL L))).length then ([], 5) else
  (wholeB L (bodyN L (cuts block L) (cuts block L).length).1 (bodyN L (cuts block L) (cuts block L).length).2 (Bm.build bits (keyL L)), 0)

theorem cutN_succ (block : Int) (L : List Ver) (n : Nat) : cutN block L (n + 1) = cutStep block L (cutN block L n) n := by
  unfold cutN; rw [List.range_succ, List.foldl_append]; rfl
/-- what the blocks are: each has one version at least, all lie within the first n, and are at most as many -/
theorem cutN_in (block : Int) (L : List Ver) : ∀ n, (cutN block L n).2 ≤ n ∧ (cutN block L n).1.length ≤ n ∧ ∀ p ∈ (cutN block L n).1, 1 ≤ p.2 ∧ p.1 + p.2 ≤ n
  | 0 => ⟨Nat.le_refl _, Nat.le_refl _, fun p hp => (by cases hp)⟩
  | n + 1 => by
    obtain ⟨h1, h2, h3⟩ := cutN_in block L n
    rw [cutN_succ]
    unfold cutStep
    split
    · refine ⟨Nat.le_refl _, by simp; omega, fun p hp => ?_⟩
      rcases List.mem_append.1 hp with hp | hp
      · have := h3 p hp; omega
      · simp at hp; subst hp; simp only; omega
    · exact ⟨by omega, by omega, fun p hp => by have := h3 p hp; omega⟩
theorem bodyN_succ (L : List Ver) (ps : List (Nat × Nat)) (n : Nat) (h : n < ps.length) : bodyN L ps (n + 1) = bodyStep L (bodyN L ps n) ps[n] := by
  unfold bodyN; rw [List.take_succ_eq_append_getElem h, List.foldl_append]; rfl
theorem keyN_succ (L : List Ver) (n : Nat) : keyN L (n + 1) = keyN L n ++ (if n = 0 ∨ (L.getD n ver0).key ≠ (L.getD (n - 1) ver0).key then [(L.getD n ver0).key] else []) := by
  unfold keyN
  rw [List.range_succ, List.filter_append, List.map_append]
  congr 1
  by_cases h : n = 0 ∨ (L.getD n ver0).key ≠ (L.getD (n - 1) ver0).key
  · rw [if_pos h]
    have : (decide (n = 0) || (L.getD n ver0).key != (L.getD (n - 1) ver0).key) = true := by simpa using h
    simp only [List.filter_cons, List.filter_nil, this, if_true, List.map_cons, List.map_nil]
  · rw [if_neg h]
    have : (decide (n = 0) || (L.getD n ver0).key != (L.getD (n - 1) ver0).key) = false := by simpa using h
    simp only [List.filter_cons, List.filter_nil, this, Bool.false_eq_true, if_false, List.map_nil]
theorem keyN_len (L : List Ver) (n : Nat) : (keyN L n).length ≤ n := by
  unfold keyN; rw [List.length_map]
  have := List.length_filter_le (fun i => decide (i = 0) || (L.getD i ver0).key != (L.getD (i - 1) ver0).key) (List.range n)
  simpa using this
theorem frame_len (c : UInt8) (l : List UInt8) : (Fr.put c l).1.length ≤ l.length + 20 := by
  by_cases h : c.toNat = 0 ∨ 262144 < l.length
  · unfold Fr.put; rw [if_pos h]; simp
  · rw [Fr.put_ok (by omega) (by omega), List.length_append, Fr.lit_len, List.length_cons, Cd.putT, List.length_append]
    have := Cd.putU_len10 l.length (by omega)
    omega
theorem part_len (L : List Ver) (p : Nat × Nat) : (part L p).length ≤ p.2 := by unfold part; simp; omega
theorem part_mem {L : List Ver} {p : Nat × Nat} {x : Ver} (h : x ∈ part L p) : x ∈ L := List.mem_of_mem_drop (List.mem_of_mem_take h)
theorem blk_len {L : List Ver} (h : ∀ x ∈ L, x.val.length ≤ 16384) : (blk L).length ≤ 16700 * L.length := blkN_len h _
theorem dataF_len {L : List Ver} (h : ∀ x ∈ L, x.val.length ≤ 16384) (p : Nat × Nat) : (dataF L p).length ≤ 16700 * p.2 + 20 := by
  unfold dataF
  have h1 := frame_len 3 (blk (part L p))
  have h2 := blk_len (L := part L p) (fun x hx => h x (part_mem hx))
  have h3 := part_len L p
  omega
theorem putT_len (l : List UInt8) (h : l.length ≤ 1099511627776) : (Cd.putT l).length ≤ l.length + 10 := by
  rw [Cd.putT, List.length_append]
  have := Cd.putU_len10 l.length (by omega)
  omega
theorem spanB_len (pos : Nat) (L : List Ver) (p : Nat × Nat) (h1 : pos < 18446744073709551616) (h2 : (dataF L p).length < 18446744073709551616) (h3 : p.2 < 18446744073709551616) : (spanB pos L p).length ≤ 260 := by
  unfold spanB
  have e1 := Cd.putU_len10 pos h1
  have e2 := Cd.putU_len10 _ h2
  have e3 := Cd.putU_len10 _ h3
  have e4 := enc_len (lastOf L p)
  have e5 := putT_len (encKey (lastOf L p)) (by omega)
  simp only [List.length_append]
  omega
end Tb
end Go.Proofs.Ythcllaombabpbaa

/-
  codec.join: a range over a function that collects texts.
-/
namespace Go.Proofs.Ythcllaombabpbaa
open Go.RowKit Go.Shelf
set_option linter.unusedSimpArgs false
set_option linter.unusedVariables false

attribute [local go_sem] Oper.semAt_some

theorem wpListIn_append_own_string {F : Fence} {n' : Nat} {P : Program} {ops : Array Oper} {rest : List Oper} {o : Oper} {a : Act} {Q : Exit → Act → World → Prop} (w : World) (hgd : o.guard = none) (sl x : Operand) (t u : TypeId)
    (ho : o.op = .call { callee := .builtin .append, args := #[sl, x], argTypes := #[t, u] })
    (base : Nat) (e : TypeId) (i : TypeInfo) (ht : P.underlying t = some (.slice e)) (hu : P.underlying u = some .string) (hi : P.info? e = some i) (hz : i.zero = some (.int .u8 0))
    (hsize : i.size = 1) (hby : i.bytes = 1)
    (v : Value) (n : Nat) (xs : List Value) (hs : a.eval sl = v) (hown : w.ownsRow base e 1 v n xs) (s : ByteArray) (hx : a.eval x = .string s)
    (h63 : n + s.size ≤ maxLen) (hbytes : n + s.size ≤ 140737488355328) (hbase : base ≤ w.heap.size)
    (h : ∀ v' w', w'.ownsRow base e 1 v' (n + s.size) (xs ++ Lib.strCells s) → w.grownBy w' v.ownBlock → wpListIn F n' P ops Q rest (a.put o.dst v') w') : wpListIn F n' P ops Q (o :: rest) a w := by
  refine wpListIn_plain hgd fun K hK => ?_
  obtain ⟨v', w', hr, h2, h3, h4⟩ := Lib.run_append_own_string (P := P) w base t u o.type e i ht hu hi hz hsize hby v n xs hown s h63 hbytes hbase
  unfold Oper.wpIn
  refine ⟨?_, ?_⟩
  · simp [Oper.about, ho, resolve, Target.leads, Sem.run_pure]
  · rw [Oper.semAt_plain F _ _ (by rw [ho]; intro c hc'; cases hc')]
    simp [execOp, ho, resolve, invoke, builtin, hs, hx, hr, Result.andThen]
    exact hK _ _ (h v' w' h2 h3)

/-- a text that a range hands on: of at most so many bytes -/
abbrev Piece := { x : List UInt8 // x.length ≤ 1048576 }
def flat (pre : List Piece) : List UInt8 := (pre.map (·.1)).flatten
theorem flat_snoc (pre : List Piece) (x : Piece) : flat (pre ++ [x]) = flat pre ++ x.1 := by simp [flat]
theorem flat_len (pre : List Piece) : (flat pre).length ≤ pre.length * 1048576 := by
  induction pre with
  | nil => simp [flat]
  | cons x r ih =>
    have : flat (x :: r) = x.1 ++ flat r := by simp [flat]
    rw [this, List.length_append, List.length_cons]
    have := x.2
    omega
theorem ownsRow_slice {W : World} {base : Nat} {e : TypeId} {size : Nat} {v : Value} {k : Nat} {xs : List Value} (h : W.ownsRow base e size v k xs) : ∃ ao l cap, v = .slice ao l cap := by
  rcases h.2 with ⟨rfl, _⟩ | ⟨g, cap, _, rfl, _⟩
  · exact ⟨_, _, _, rfl⟩
  · exact ⟨_, _, _, rfl⟩
theorem stops_mono {α : Type} {F : Fence} {n : Nat} {P : Program} {g : Nat} {lb : Array Value} {encs : α → Array Value} {Kp : World → World → Prop} {S Sp : List α → Prop} {N : Nat} {w w0 : World}
    (h : SeqStopsK F n P g lb encs Kp S Sp N w) (hb : Below w.heap.size w w0) : SeqStopsK F n P g lb encs Kp S Sp N w0 :=
  fun l J Jx W hW => h l J Jx W (hb.trans (hW.mono hb.size))

/-- 'Boxed.appended' where the append laid no block of its own ahead -/
theorem Boxed_appended' {W w1 : World} {n₀ B : Nat} {t e : TypeId} {size : Nat} {v v' : Value} {k m : Nat} {xs ys : List Value}
    (hv : Boxed W B t v) (hte : t ≠ e) (hrow : W.ownsRow n₀ e size v k xs) (hn₀ : n₀ ≤ W.heap.size) (hB : n₀ ≤ B)
    (hown' : w1.ownsRow n₀ e size v' m ys) (hgrow : W.grownBy w1 v.ownBlock) :
    Boxed w1 B t v ∧ Boxed (w1.setCell ⟨B, 0, none⟩ v') B t v' ∧ (w1.setCell ⟨B, 0, none⟩ v').ownsRow n₀ e size v' m ys ∧ KeepsOthers W (w1.setCell ⟨B, 0, none⟩ v') ∧ Below n₀ W (w1.setCell ⟨B, 0, none⟩ v') := by
  have hv1 : Boxed w1 B t v := hv.kept hgrow (hv.not_row hte hrow)
  refine ⟨hv1, hv1.set v', hown'.kept (grownBy_setCell' w1 B v') (.inr (hv1.not_row hte hown').symm), ?_, ?_⟩
  · refine (KeepsOthers.of_grownBy hgrow fun j o ej hj => ?_).trans (KeepsOthers.setCell _ _ _)
    rcases hrow.2 with ⟨rfl, _⟩ | ⟨g, cap, cur, rfl, _, hgb, _⟩
    · simp [Value.ownBlock] at ej
    · obtain rfl : g = j := by simpa [Value.ownBlock] using ej
      rw [hgb] at hj; cases hj; rfl
  · refine ((Below.refl n₀ W).grown hgrow hn₀ fun j ej => ?_).setCell (p := ⟨B, 0, none⟩) hB v'
    rcases hrow.2 with ⟨rfl, _⟩ | ⟨g, cap, cur, rfl, hb, _, _⟩
    · simp [Value.ownBlock] at ej
    · obtain rfl : g = j := by simpa [Value.ownBlock] using ej
      exact hb

end Go.Proofs.Ythcllaombabpbaa
/-
  slices.Values over texts, and PutText, which joins two of them.
-/
namespace Go.Proofs.Ythcllaombabpbaa
open Go.RowKit Go.Shelf
set_option linter.unusedSimpArgs false
set_option linter.unusedVariables false

attribute [local go_sem] Oper.semAt_some

/-- what has come when k rounds are over: f 0, .., f (k - 1) -/
def upto {α : Type} (f : Nat → α) (k : Nat) : List α := (List.range k).map f
theorem upto_succ {α : Type} (f : Nat → α) (k : Nat) : upto f (k + 1) = upto f k ++ [f k] := by simp [upto, List.range_succ]
theorem upto_length {α : Type} (f : Nat → α) (k : Nat) : (upto f k).length = k := by simp [upto]

end Go.Proofs.Ythcllaombabpbaa
namespace Go.Proofs.Ythcllaombabpbaa
open Go.RowKit
set_option linter.unusedSimpArgs false
set_option linter.unusedVariables false

/-- the world of a row of four bytes, written one by one -/
def Row4 (w : World) (g : Nat) (l : List UInt8) : Prop := ∀ j, j < 4 → w.cell? ⟨g, j, none⟩ = some (.int .u8 ((l.getD j 0).toNat : Int)) ∧ w.frozen? ⟨g, j, none⟩ = false
theorem Row4.store {w : World} {g n k : Nat} {x : Value} (h : Row4 w g (Fr.litPart n k)) (hk : k < 4) (hx : x = .int .u8 ((Fr.litByte n k).toNat : Int)) :
    Row4 (w.setCell ⟨g, k, none⟩ x) g (Fr.litPart n (k + 1)) := by
  intro j hj
  rw [World.frozen?_setCell]
  refine ⟨?_, (h j hj).2⟩
  rw [Fr.litPart_get _ _ _ hj]
  by_cases hjk : j = k
  · subst hjk
    rw [World.cell?_setCell_same (h := (h j hj).1), hx, if_pos (by omega)]
  · rw [World.cell?_setCell_other (h := by simp only [ne_eq, Addr.mk.injEq, true_and, and_true]; omega), (h j hj).1, Fr.litPart_get _ _ _ hj]
    by_cases h1 : j < k
    · rw [if_pos h1, if_pos (by omega)]
    · rw [if_neg h1, if_neg (by omega)]
theorem Row4.conv {w : World} {g c : Nat} {l : List UInt8} (h : Row4 w g l) (hl : l.length = 4) : (convert 117 9 (.slice (some ⟨g, 0, none⟩) 4 c)).run Try.prog w = .ok (.string (Cd.bs l)) w := by
  have := run_convert_bytes_back (P := Try.prog) w 117 9 5 ⟨g, 0, none⟩ c l Try.underlying117 Try.underlying5 Try.underlying9 (fun j hj => by
    have := (h j (by omega)).1
    rw [List.getD_eq_getElem?_getD, List.getElem?_eq_getElem hj] at this
    have hp : (⟨g, 0, none⟩ : Addr).add j = ⟨g, j, none⟩ := by unfold Addr.add; split <;> simp_all
    rw [hp]; simpa using this)
  rwa [hl] at this
theorem Row4.new (w : World) (n : Nat) (T : TypeId) : Row4 (w.alloc (.cells #[.int .u8 0, .int .u8 0, .int .u8 0, .int .u8 0] T)) w.heap.size (Fr.litPart n 0) := by
  intro j hj
  rw [Fr.litPart_zero]
  match j, hj with
  | 0, _ => exact ⟨by go_simp, by go_simp⟩
  | 1, _ => exact ⟨by go_simp, by go_simp⟩
  | 2, _ => exact ⟨by go_simp, by go_simp⟩
  | 3, _ => exact ⟨by go_simp, by go_simp⟩

end Go.Proofs.Ythcllaombabpbaa
namespace Go.Proofs.Ythcllaombabpbaa
open Go.RowKit
set_option linter.unusedSimpArgs false
set_option linter.unusedVariables false

/-- string(b) of one byte that lies in a cell -/
theorem conv_cell (W : World) (g : Nat) (x : Int) (c : UInt8) (hx : x = (c.toNat : Int)) (h : W.cell? ⟨g, 0, none⟩ = some (.int .u8 x)) :
    (convert 117 9 (.slice (some ⟨g, 0, none⟩) 1 1)).run Try.prog W = .ok (.string (Cd.bs [c])) W := by
  have := run_convert_bytes_back (P := Try.prog) W 117 9 5 ⟨g, 0, none⟩ 1 [c] Try.underlying117 Try.underlying5 Try.underlying9 (fun j hj => by
    simp at hj; subst hj
    rw [show (⟨g, 0, none⟩ : Addr).add 0 = ⟨g, 0, none⟩ from by simp [Addr.add], h, hx]; rfl)
  simpa using this

theorem bcell {W w1 : World} (hb : Below W.heap.size W w1) : (∀ b o, b < W.heap.size → w1.cell? ⟨b, o, none⟩ = W.cell? ⟨b, o, none⟩) ∧ (∀ b o, b < W.heap.size → w1.frozen? ⟨b, o, none⟩ = W.frozen? ⟨b, o, none⟩) :=
  ⟨fun b o h => hb.cell (p := ⟨b, o, none⟩) h, fun b o h => hb.frozen (p := ⟨b, o, none⟩) h⟩

end Go.Proofs.Ythcllaombabpbaa
/-
  The document's answers on places of versions as bytes (tapestryref06.May, tapestryref08.EncodeKey, DecodeKey).
-/
namespace Go.Proofs.Ythcllaombabpbaa
open Go.RowKit
set_option linter.unusedSimpArgs false
set_option linter.unusedVariables false
namespace Tb
open Mt (Ver mayB lessB placeB VerIn verV)

end Tb
end Go.Proofs.Ythcllaombabpbaa

/-
  The document's answers on blocks of versions (tapestryref08.rising, entry, Bytes, EncodeBlock).
-/
namespace Go.Proofs.Ythcllaombabpbaa
open Go.RowKit
set_option linter.unusedSimpArgs false
set_option linter.unusedVariables false
namespace Tb
open Mt (Ver mayB lessB placeB VerIn verV)
open Vs (Vers At)

theorem ord_step {L : List Ver} {q : Nat} (h1 : 1 ≤ q) (h2 : q < L.length) :
    ((List.range q).all fun i => lessB (L.getD i ver0) (L.getD (i + 1) ver0)) = (((List.range (q - 1)).all fun i => lessB (L.getD i ver0) (L.getD (i + 1) ver0)) && lessB (L.getD (q - 1) ver0) (L.getD q ver0)) := by
  obtain ⟨r, rfl⟩ : ∃ r, q = r + 1 := ⟨q - 1, by omega⟩
  rw [List.range_succ, List.all_append]
  simp
theorem all_take {α : Type} (p : α → Bool) (L : List α) (q : Nat) (h : q < L.length) : (L.take (q + 1)).all p = ((L.take q).all p && p L[q]) := by
  rw [List.take_succ_eq_append_getElem h, List.all_append]
  simp
theorem all_cut {α : Type} {p : α → Bool} {L : List α} {q : Nat} (h : q < L.length) (hf : p L[q] = false) : L.all p = false := by
  rw [Bool.eq_false_iff]
  intro ha
  have := List.all_eq_true.1 ha _ (List.getElem_mem h)
  rw [hf] at this
  cases this

def encBlkV (r : List UInt8 × Nat) : Value := .tuple #[.string (Cd.bs r.1), .int .i64 (r.2 : Nat)]

end Tb
end Go.Proofs.Ythcllaombabpbaa
/-
  Chapter 7's document side (tapestryref07): Valid, bit, Hash, Places, Load, Has.
-/
namespace Go.Proofs.Ythcllaombabpbaa
open Go.RowKit
set_option linter.unusedSimpArgs false
set_option linter.unusedVariables false
namespace Bm
theorem bit_eq (s : List UInt8) (i : Nat) (hi : 1 + i / 8 < s.length) : bitB s i = (((s[1 + i / 8].toNat : Int) / 2 ^ (i % 8)).tmod 2 == 1) := by
  unfold bitB
  rw [List.getD_eq_getElem?_getD, List.getElem?_eq_getElem hi, Option.getD_some]
  generalize s[1 + i / 8].toNat = x
  have e1 : ((x : Int) / 2 ^ (i % 8)) = ((x / 2 ^ (i % 8) : Nat) : Int) := by rw [Int.natCast_ediv]; norm_cast
  rw [e1]
  generalize x / 2 ^ (i % 8) = y
  rw [Int.tmod_eq_emod_of_nonneg (by omega), Bool.eq_iff_iff]
  simp
  omega

/-- cells of numbers -/
def ic (l : List Int) : List Value := l.map fun b => .int .i64 b
theorem info_int7 : (Try.prog.info? 3).map (fun i => (i.zero, i.size, i.bytes)) = some (some (.int .i64 0), 1, 8) := by kernel_rfl
theorem dOf_in {h : Int} (hh : 0 ≤ h ∧ h < 18446744073709551616) : 0 ≤ dOf h ∧ dOf h < 18446744073709551616 := by
  unfold dOf
  obtain ⟨m, hm⟩ := Int.eq_ofNat_of_zero_le (a := IntKind.u64.wrap (h * 2 ^ 31)) (by rw [IntKind.wrap_u64]; omega)
  obtain ⟨n, hn⟩ := Int.eq_ofNat_of_zero_le (a := h / 2 ^ 33) (by omega)
  have hm2 : m < 18446744073709551616 := by have : IntKind.u64.wrap (h * 2 ^ 31) < 18446744073709551616 := by rw [IntKind.wrap_u64]; omega
                                            omega
  have hn2 : n < 18446744073709551616 := by omega
  rw [hm, hn, u64_or_nat m n (by omega) (by omega)]
  have := Nat.or_lt_two_pow (x := m) (y := n) (n := 64) (by omega) (by omega)
  omega
theorem hash_in (l : List UInt8) : 0 ≤ hash l ∧ hash l < 18446744073709551616 := Mt.mix_in _
theorem placesGo_snoc : ∀ (k : Nat) (h d m : Int), ∃ h', placesGo (k + 1) h d m = placesGo k h d m ++ [h' % m] := by
  intro k
  induction k with
  | zero => intro h d m; exact ⟨h, rfl⟩
  | succ k ih => intro h d m; obtain ⟨h', e⟩ := ih (IntKind.u64.wrap (h + d)) d m; exact ⟨h', by rw [placesGo, e, placesGo]; rfl⟩

theorem placesGo_in (key : List UInt8) (k : Nat) (m : Int) (hm : 0 < m) : ∀ i ∈ places key k m, 0 ≤ i ∧ i < m := places_in k _ _ m hm

theorem filter_snoc (f : Nat → Bool) (q : Nat) : ((List.range (q + 1)).filter f).length = ((List.range q).filter f).length + (if f q then 1 else 0) := by
  rw [List.range_succ, List.filter_append, List.length_append]
  cases h : f q <;> simp [h]

end Bm
end Go.Proofs.Ythcllaombabpbaa
/-
  Chapter 7's document side: Build.
-/
namespace Go.Proofs.Ythcllaombabpbaa
open Go.RowKit
set_option linter.unusedSimpArgs false
set_option linter.unusedVariables false
namespace Bm
/-- a slice of texts, in blocks below B -/
def Strs (B : Nat) (W : World) (v : Value) (L : List (List UInt8)) : Prop :=
  ∃ (a : Option Addr) (cap b off : Nat), v = .slice a L.length cap ∧ (0 < L.length → a = some ⟨b, off, none⟩ ∧ b < B) ∧ ∀ j (h : j < L.length), W.cell? ⟨b, off + j, none⟩ = some (.string (Cd.bs L[j]))
theorem Strs.below {B B' : Nat} {W W' : World} {v : Value} {L : List (List UInt8)} (h : Strs B W v L) (hb : Below B' W W') (hB : B ≤ B') : Strs B W' v L := by
  obtain ⟨a, cap, b, off, h1, h2, h3⟩ := h
  exact ⟨a, cap, b, off, h1, h2, fun j hj => (hb.cell (p := ⟨b, off + j, none⟩) (Nat.lt_of_lt_of_le (h2 (by omega)).2 hB)).trans (h3 j hj)⟩
theorem cs_map (l : List UInt8) : Cd.cs l = l.map fun c => Value.int .u8 (c.toNat : Int) := rfl
theorem made_u8 (n : Nat) : (madeCells (Value.int .u8 0).cells (n * 1)).toList = Cd.cs (List.replicate n 0) := by
  rw [show (Value.int .u8 0).cells = #[Value.int .u8 0] from rfl, Nat.mul_one, toList_madeCells_one, cs_map, List.map_replicate]; rfl
theorem cs_setB (l : List UInt8) (i : Nat) (v : Int) (hv : v = ((orB (l.getD (1 + i / 8) 0) i).toNat : Int)) : (Cd.cs l).set (1 + i / 8) (.int .u8 v) = Cd.cs (setB l i) := by
  unfold setB
  rw [cs_map, cs_map, List.map_set, hv]
theorem cs_get (l : List UInt8) (k : Nat) (h : k < l.length) : (Cd.cs l)[k]? = some (.int .u8 ((l.getD k 0).toNat : Int)) := by
  rw [cs_map, List.getElem?_map, List.getElem?_eq_getElem h, List.getD_eq_getElem?_getD, List.getElem?_eq_getElem h]; rfl
theorem or_val (x : UInt8) (i : Nat) : bits BinOp.or IntKind.u8 (x.toNat : Int) (2 ^ min (i % 8) 8 % 256) = ((orB x i).toNat : Int) := by
  have h8 : i % 8 < 8 := Nat.mod_lt _ (by omega)
  have hp : 2 ^ (i % 8) < 256 := Nat.lt_of_lt_of_le (Nat.pow_lt_pow_right (by omega) h8) (Nat.le_refl _)
  have hx := x.toNat_lt
  have ho := Nat.or_lt_two_pow (x := x.toNat) (y := 2 ^ (i % 8)) (n := 8) (by omega) (by omega)
  have e0 : min (i % 8) 8 = i % 8 := Nat.min_eq_left (by omega)
  have e1 : ((2 : Int) ^ (i % 8) % 256) = ((2 ^ (i % 8) : Nat) : Int) := by
    have : ((2 : Int) ^ (i % 8)) = ((2 ^ (i % 8) : Nat) : Int) := by norm_cast
    rw [this]; exact Int.emod_eq_of_lt (Int.natCast_nonneg _) (Int.ofNat_lt.2 hp)
  rw [e0, e1, u8_or_nat _ _ (by omega) (by omega)]
  unfold orB
  rw [UInt8.toNat_ofNat']
  have e2 : (x.toNat ||| 2 ^ (i % 8)) % 2 ^ 8 = (x.toNat ||| 2 ^ (i % 8)) := Nat.mod_eq_of_lt (by omega)
  rw [e2]
theorem cs_set0 (n k : Nat) (h : k < 256) : (Cd.cs (List.replicate (1 + n) 0)).set 0 (.int .u8 (k : Int)) = Cd.cs (UInt8.ofNat k :: List.replicate n 0) := by
  rw [cs_map, cs_map, Nat.add_comm, List.replicate_succ, List.map_cons, List.set_cons_zero, List.map_cons, UInt8.toNat_ofNat', show k % 2 ^ 8 = k from Nat.mod_eq_of_lt h]
theorem setAll_snoc (l : List UInt8) (is : List Int) (i : Int) : setAll l (is ++ [i]) = setB (setAll l is) i.toNat := by simp [setAll]
theorem fill_snoc (k : Nat) (m : Int) (l : List UInt8) (a : List (List UInt8)) (x : List UInt8) : fill k m l (a ++ [x]) = setAll (fill k m l a) (places x k m) := by simp [fill]

end Bm
end Go.Proofs.Ythcllaombabpbaa
/-
  The document's blocks of a list of versions, its keys, its frames (tapestryref08.Blocks, keys, put).
-/
namespace Go.Proofs.Ythcllaombabpbaa
open Go.RowKit
set_option linter.unusedSimpArgs false
set_option linter.unusedVariables false
namespace Tb
open Mt (Ver mayB lessB placeB VerIn verV)
open Vs (Vers At)

theorem own_after {W w : World} {base : Nat} {e : TypeId} {size : Nat} {v : Value} {n : Nat} {xs : List Value} (h : W.ownsRow base e size v n xs) (hb : Below W.heap.size W w) : w.ownsRow base e size v n xs :=
  Sq.row_kept h (Sq.Kept.of_below (T := fun _ => True) hb) (fun _ _ => trivial)
/-- a block as a slice of the list's own memory -/
def slc (fb fo cap : Nat) (p : Nat × Nat) : Value := .slice (some ⟨fb, fo + p.1 * 4, none⟩) p.2 (cap - p.1)
theorem info_vers : (Try.prog.info? 28).map (fun i => (i.zero, i.size, i.bytes)) = some (some (.slice none 0 0), 1, 24) := by kernel_rfl
theorem part_get {L : List Ver} {p : Nat × Nat} {j : Nat} (h : j < (part L p).length) (h' : p.1 + j < L.length) : (part L p)[j] = L[p.1 + j] := by simp [part]
theorem part_vers {B : Nat} {W : World} {a : Option Addr} {fb fo cap : Nat} {L : List Ver} (ha : 0 < L.length → a = some ⟨fb, fo, none⟩ ∧ fb < B) (hc : ∀ j (h : j < L.length), At W fb (fo + j * 4) L[j]) (p : Nat × Nat) (h1 : 1 ≤ p.2) (h : p.1 + p.2 ≤ L.length) : Vers B W (slc fb fo cap p) (part L p) := by
  have hl : (part L p).length = p.2 := by unfold part; simp; omega
  refine ⟨_, _, fb, fo + p.1 * 4, by rw [hl]; rfl, fun _ => ⟨rfl, (ha (by omega)).2⟩, fun j hj => ?_⟩
  rw [hl] at hj
  have := hc (p.1 + j) (by omega)
  rw [show fo + (p.1 + j) * 4 = fo + p.1 * 4 + j * 4 by omega] at this
  rw [part_get _ (by omega)]
  exact this

def sc8 (l : List (List UInt8)) : List Value := l.map fun d => .string (Cd.bs d)
theorem info_str8 : (Try.prog.info? 9).map (fun i => (i.zero, i.size, i.bytes)) = some (some (.string ⟨#[]⟩), 1, 16) := by kernel_rfl

end Tb
end Go.Proofs.Ythcllaombabpbaa
/-
  The document's groups of a row of versions (tapestryref09.Groups).
-/
namespace Go.Proofs.Ythcllaombabpbaa
open Go.RowKit
set_option linter.unusedSimpArgs false
set_option linter.unusedVariables false
namespace Mg
open Mt (Ver mayB lessB placeB VerIn verV)
open Vs (Vers At)
open Tb (ver0 getD_at own_after)
/-- cells of places -/
def nc (l : List Nat) : List Value := l.map fun (b : Nat) => .int .i64 (b : Int)
theorem info_int9 : (Try.prog.info? 3).map (fun i => (i.zero, i.size, i.bytes)) = some (some (.int .i64 0), 1, 8) := by kernel_rfl

set_option maxRecDepth 100000 in
set_option maxHeartbeats 4000000 in
theorem groupsR_any (v : Value) (L : List Ver) (w : World) (hV : Vers w.heap.size w v L) (hL : L.length ≤ 1099511627776) :
    Calls Try.prog 34 #[v] w fun e w' => ∃ u, e = .returned u ∧ w'.ownsRow w.heap.size 3 1 u (grp L).length (nc (grp L)) ∧ Below w.heap.size w w' := by
  obtain ⟨i0, hi0, hz0, hz1, hz2⟩ := info_parts info_int9
  obtain ⟨a, cap, fb, fo, rfl, ha, hcells⟩ := hV
  have HC := Lib.hid hcells
  clear hcells
  go_enter Try.func34, Try.ntmps34
  go_wp2_with fail
  go_loopw [3, 4] (fun o i wr => ∃ q : Nat, q ≤ L.length ∧ i = .int .i64 (q : Int) ∧ wr.ownsRow w.heap.size 3 1 o (grpN L q).length (nc (grpN L q)) ∧ Below w.heap.size w wr) (fun _ i _ => L.length - (intOf i).toNat)
  case atStart => exact ⟨0, Nat.zero_le _, rfl, World.ownsRow_nil _ _ _ _, Below.refl _ _⟩
  case round =>
    obtain ⟨q, hq, rfl, hown, hB⟩ := hrel
    have hbs := hB.size
    have hnl := grpN_len L q
    by_cases hlt : q < L.length
    · obtain ⟨rfl, hfb⟩ := ha (by omega)
      obtain ⟨e0, _, _, _⟩ := (HC.out q hlt).below hB hfb
      have hsucc := grpN_succ L q
      have hi1 : (0 : Int) ≤ (q : Int) ∧ (q : Int) < (L.length : Int) := by omega
      have hng : newG L q = (decide (q = 0) || (L.getD q ver0).key != (L.getD (q - 1) ver0).key) := rfl
      rw [hng, getD_at hlt] at hsucc
      clear hng
      generalize grpN L q = ks at *
      by_cases h0 : q = 0
      · have hb0 : ((q : Int) == 0) = true := by simp; omega
        rw [if_pos (by simp [h0])] at hsucc
        have HS := Lib.hid hsucc
        clear hsucc h0
        generalize L[q].key = x at *
        go_wp2_with fail
        go_big_quiet (fail)
        have hownq := Sq.row_kept hown (Sq.Kept.drewN (fun _ => True) wr nq) (fun _ _ => trivial)
        have hBq : Below w.heap.size w (wr.drewN nq) := belowN hB _
        generalize wr.drewN nq = wq at *
        have hqs := hBq.size
        clear hown hB hbs e0
        go_wp2_with (at_builtin; refine wpList_append_own _ rfl _ _ 67 rfl w.heap.size 3 i0 (.int .i64 0) 1 8 Try.underlying67 hi0 hz0 hz1 hz2 rfl (by decide) _ _ _ rfl (hownq.alloc _) ⟨wq.heap.size, 0, none⟩ 1 1 [_] rfl rfl (cell_one_new _ _ _) (by simp [Value.oneCell']) (by unfold maxLen; omega) (by omega) (by simp; omega) ?_; intro v' w2 hown2 hgrow _)
        go_roundw
        case rel => exact ⟨q + 1, by omega, by go_num, by rw [HS.out]; simpa [List.length_append, nc] using hown2, (hBq.alloc hqs _).grown hgrow (by simp; omega) (fun j hj => (Ob.row_lt hownq hj).1)⟩
        case measure => simp [intOf]; omega
      · have hb0 : ((q : Int) == 0) = false := by simp; omega
        have hlt0 : q - 1 < L.length := by omega
        obtain ⟨d0, _, _, _⟩ := (HC.out (q - 1) hlt0).below hB hfb
        have hi2 : IntKind.i64.wrap ((q : Int) - 1) = (q : Int) - 1 := by rw [IntKind.wrap_i64]; omega
        have hi3 : (0 : Int) ≤ (q : Int) - 1 ∧ (q : Int) - 1 < (L.length : Int) := by omega
        have hi4 : ((q : Int) - 1).toNat = q - 1 := by omega
        rw [getD_at hlt0] at hsucc
        generalize L[q].key = x at *
        generalize L[q - 1].key = y at *
        by_cases hxy : x = y
        · rw [if_neg (by simp [h0, hxy])] at hsucc
          have HS := Lib.hid hsucc
          have hne : (x == y) = true := by simp [hxy]
          clear hsucc hxy
          go_wp2_with fail
          go_big_quiet (fail)
          have hownq := Sq.row_kept hown (Sq.Kept.drewN (fun _ => True) wr nq) (fun _ _ => trivial)
          have hBq : Below w.heap.size w (wr.drewN nq) := belowN hB _
          generalize wr.drewN nq = wq at *
          have hqs := hBq.size
          clear hown hB hbs e0
          go_wp2_with fail
          go_roundw
          case rel => exact ⟨q + 1, by omega, by go_num, by rw [HS.out, List.append_nil]; exact hownq, hBq⟩
          case measure => simp [intOf]; omega
        · rw [if_pos (by simp [hxy])] at hsucc
          have HS := Lib.hid hsucc
          have hne : (x == y) = false := by simpa using hxy
          clear hsucc hxy
          go_wp2_with fail
          go_big_quiet (fail)
          have hownq := Sq.row_kept hown (Sq.Kept.drewN (fun _ => True) wr nq) (fun _ _ => trivial)
          have hBq : Below w.heap.size w (wr.drewN nq) := belowN hB _
          generalize wr.drewN nq = wq at *
          have hqs := hBq.size
          clear hown hB hbs e0
          go_wp2_with (at_builtin; refine wpList_append_own _ rfl _ _ 67 rfl w.heap.size 3 i0 (.int .i64 0) 1 8 Try.underlying67 hi0 hz0 hz1 hz2 rfl (by decide) _ _ _ rfl (hownq.alloc _) ⟨wq.heap.size, 0, none⟩ 1 1 [_] rfl rfl (cell_one_new _ _ _) (by simp [Value.oneCell']) (by unfold maxLen; omega) (by omega) (by simp; omega) ?_; intro v' w2 hown2 hgrow _)
          go_roundw
          case rel => exact ⟨q + 1, by omega, by go_num, by rw [HS.out]; simpa [List.length_append, nc] using hown2, (hBq.alloc hqs _).grown hgrow (by simp; omega) (fun j hj => (Ob.row_lt hownq hj).1)⟩
          case measure => simp [intOf]; omega
    · obtain rfl : q = L.length := by omega
      have HG := Lib.hid (show grp L = grpN L L.length ++ [L.length] from rfl)
      have hnl2 := grpN_len L L.length
      generalize grpN L L.length = ks at *
      go_wp2_with (at_builtin; refine wpList_append_own _ rfl _ _ 67 rfl w.heap.size 3 i0 (.int .i64 0) 1 8 Try.underlying67 hi0 hz0 hz1 hz2 rfl (by decide) _ _ _ rfl (hown.alloc _) ⟨wr.heap.size, 0, none⟩ 1 1 [_] rfl rfl (cell_one_new _ _ _) (by simp [Value.oneCell']) (by unfold maxLen; omega) (by omega) (by simp; omega) ?_; intro v' w2 hown2 hgrow _)
      go_ret
      exact ⟨_, rfl, by rw [HG.out]; simpa [List.length_append, nc] using hown2, (hB.alloc hbs _).grown hgrow (by simp; omega) (fun j hj => (Ob.row_lt hown hj).1)⟩
end Mg
end Go.Proofs.Ythcllaombabpbaa
