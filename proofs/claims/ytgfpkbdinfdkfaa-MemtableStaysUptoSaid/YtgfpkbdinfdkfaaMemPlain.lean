/-
  Plain mathematics of chapter 6: a table as a list of versions with their towers' heights; P6.8.
-/
import Derived.Test.YtgfpkbdinfdkfaaMemOrder
import Derived.Test.YtgfpkbdinfdkfaaCodecOrder
namespace Go.Proofs.Ytgfpkbdinfdkfaa
open Go.RowKit
set_option linter.unusedVariables false
set_option linter.unusedSimpArgs false
namespace Mt
open Op (bytesLess)
theorem bl_irrefl : ∀ a : List UInt8, bytesLess a a = false
  | [] => rfl
  | c :: r => by rw [Cd.bl_cons]; simp [bl_irrefl r]
theorem bl_trans : ∀ {a b c : List UInt8}, bytesLess a b = true → bytesLess b c = true → bytesLess a c = true
  | _, [], c, h, k => by rw [Cd.bl_nil_r] at h; cases h
  | _, _ :: _, [], h, k => by rw [Cd.bl_nil_r] at k; cases k
  | [], _ :: _, _ :: _, h, k => rfl
  | x :: p, y :: q, z :: r, h, k => by
    rw [Cd.bl_cons] at h k ⊢
    simp only [Bool.or_eq_true, Bool.and_eq_true, decide_eq_true_eq] at h k ⊢
    rcases h with h | ⟨h, h'⟩ <;> rcases k with k | ⟨k, k'⟩
    · exact .inl (by omega)
    · exact .inl (by omega)
    · exact .inl (by omega)
    · exact .inr ⟨by omega, bl_trans h' k'⟩
theorem less_irrefl (a : Ver) : lessB a a = false := by unfold lessB; simp
theorem less_trans {a b c : Ver} (h : lessB a b = true) (k : lessB b c = true) : lessB a c = true := by
  unfold lessB at *
  by_cases h1 : a.key = b.key
  · rw [if_pos h1] at h
    by_cases h2 : b.key = c.key
    · rw [if_pos h2] at k
      rw [if_pos (h1.trans h2)]
      simp at h k ⊢
      omega
    · rw [if_neg h2] at k
      rw [if_neg (fun e => h2 (h1.symm.trans e)), h1]
      exact k
  · rw [if_neg h1] at h
    by_cases h2 : b.key = c.key
    · rw [if_pos h2] at k
      rw [if_neg (fun e => h1 (e.trans h2.symm)), ← h2]
      exact h
    · rw [if_neg h2] at k
      have := bl_trans h k
      rw [if_neg (fun e => by rw [e, bl_irrefl] at this; cases this)]
      exact this
/-- a table: its versions in order, with heights -/
abbrev Tab := List (Ver × Nat)
def vers (t : Tab) : List Ver := t.map (·.1)
/-- P6.3's limits -/
def mayB (v : Ver) : Bool := decide (1 ≤ v.key.length) && decide (v.key.length ≤ 96) && decide (1 ≤ v.seq) && decide (v.seq ≤ 1125899906842624) && decide (v.val.length ≤ 16384) && (!v.del || decide (v.val = []))
def Ordered (t : Tab) : Prop := (vers t).Pairwise fun a b => lessB a b = true
/-- where a version goes -/
def spot (t : Tab) (v : Ver) : Nat := (t.takeWhile fun x => lessB x.1 v).length
def put (t : Tab) (v : Ver) (h : Nat) : Tab := t.take (spot t v) ++ (v, h) :: t.drop (spot t v)
def there (t : Tab) (v : Ver) : Bool := (vers t).any fun x => placeB x v
def newest (t : Tab) (key : List UInt8) (seq : Int) : Option Ver := (vers t).find? fun x => decide (x.key = key ∧ x.seq ≤ seq)
def from' (t : Tab) (key : List UInt8) : List Ver := (vers t).filter fun x => !bytesLess x.key key
def bytes (t : Tab) : Nat := ((vers t).map fun x => x.key.length + x.val.length + 16).sum
def level (t : Tab) (l : Int) : List Ver := (t.filter fun x => decide (0 ≤ l ∧ l < (x.2 : Int))).map (·.1)
theorem take_spot (t : Tab) (v : Ver) : t.take (spot t v) = t.takeWhile fun x => lessB x.1 v := by
  unfold spot
  induction t with
  | nil => rfl
  | cons x r ih =>
    cases h : lessB x.1 v with
    | true => rw [List.takeWhile_cons_of_pos (by simpa using h), List.length_cons, List.take_succ_cons, ih]
    | false => rw [List.takeWhile_cons_of_neg (by simp [h])]; rfl
theorem drop_spot (t : Tab) (v : Ver) : t.drop (spot t v) = t.dropWhile fun x => lessB x.1 v := by
  unfold spot
  induction t with
  | nil => rfl
  | cons x r ih =>
    cases h : lessB x.1 v with
    | true => rw [List.takeWhile_cons_of_pos (by simpa using h), List.dropWhile_cons_of_pos (by simpa using h), List.length_cons, List.drop_succ_cons, ih]
    | false => rw [List.takeWhile_cons_of_neg (by simp [h]), List.dropWhile_cons_of_neg (by simp [h])]; rfl
theorem mem_put (t : Tab) (v : Ver) (h : Nat) (x : Ver × Nat) : x ∈ put t v h ↔ x = (v, h) ∨ x ∈ t := by
  unfold put
  rw [List.mem_append, List.mem_cons]
  constructor
  · rintro (h1 | h1 | h1)
    · exact .inr (List.mem_of_mem_take h1)
    · exact .inl h1
    · exact .inr (List.mem_of_mem_drop h1)
  · rintro (h1 | h1)
    · exact .inr (.inl h1)
    · rw [← List.take_append_drop (spot t v) t, List.mem_append] at h1
      rcases h1 with h1 | h1
      · exact .inl h1
      · exact .inr (.inr h1)
/-- in order it stays -/
theorem put_ordered {t : Tab} (ht : Ordered t) (v : Ver) (h : Nat) (hn : there t v = false) : Ordered (put t v h) := by
  induction t with
  | nil => unfold put spot; simp [Ordered, vers]
  | cons x r ih =>
    unfold Ordered vers at ht
    rw [List.map_cons, List.pairwise_cons] at ht
    have hn2 : placeB x.1 v = false ∧ there r v = false := by
      unfold there vers at hn
      rw [List.map_cons, List.any_cons, Bool.or_eq_false_iff] at hn
      exact hn
    cases hx : lessB x.1 v with
    | true =>
      have e : put (x :: r) v h = x :: put r v h := by
        unfold put
        have : spot (x :: r) v = spot r v + 1 := by unfold spot; rw [List.takeWhile_cons_of_pos (by simpa using hx), List.length_cons]
        rw [this]; rfl
      rw [e]
      unfold Ordered vers
      rw [List.map_cons, List.pairwise_cons]
      refine ⟨fun y hy => ?_, ih ht.2 hn2.2⟩
      obtain ⟨z, hz, rfl⟩ := List.mem_map.1 hy
      rcases (mem_put r v h z).1 hz with rfl | hz
      · exact hx
      · exact ht.1 _ (List.mem_map_of_mem hz)
    | false =>
      have e : put (x :: r) v h = (v, h) :: x :: r := by
        unfold put
        have : spot (x :: r) v = 0 := by unfold spot; rw [List.takeWhile_cons_of_neg (by simp [hx])]; rfl
        rw [this]; rfl
      rw [e]
      have hvx : lessB v x.1 = true := by
        have := (less_total x.1 v).2
        rw [hx, hn2.1] at this
        simpa using this
      unfold Ordered vers
      rw [List.map_cons, List.pairwise_cons]
      refine ⟨fun y hy => ?_, by rw [List.map_cons, List.pairwise_cons]; exact ht⟩
      rw [List.map_cons] at hy
      rcases List.mem_cons.1 hy with rfl | hy
      · exact hvx
      · exact less_trans hvx (ht.1 y hy)
/-- P6.8: what stands in order is told by what stands -/
theorem ordered_unique : ∀ {a b : List Ver}, (a.Pairwise fun x y => lessB x y = true) → (b.Pairwise fun x y => lessB x y = true) → (∀ x, x ∈ a ↔ x ∈ b) → a = b
  | [], [], _, _, _ => rfl
  | [], y :: s, _, _, h => by have := (h y).2 (List.mem_cons_self ..); cases this
  | x :: r, [], _, _, h => by have := (h x).1 (List.mem_cons_self ..); cases this
  | x :: r, y :: s, ha, hb, h => by
    rw [List.pairwise_cons] at ha hb
    have hxy : x = y := by
      rcases List.mem_cons.1 ((h x).1 (List.mem_cons_self ..)) with e | e
      · exact e
      · rcases List.mem_cons.1 ((h y).2 (List.mem_cons_self ..)) with e' | e'
        · exact e'.symm
        · have := less_trans (hb.1 x e) (ha.1 y e')
          rw [less_irrefl] at this
          cases this
    subst hxy
    have : r = s := ordered_unique ha.2 hb.2 (fun z => by
      have hz := h z
      rw [List.mem_cons, List.mem_cons] at hz
      constructor
      · intro hm
        rcases hz.1 (.inr hm) with e | e
        · subst e; have := ha.1 z hm; rw [less_irrefl] at this; cases this
        · exact e
      · intro hm
        rcases hz.2 (.inr hm) with e | e
        · subst e; have := hb.1 z hm; rw [less_irrefl] at this; cases this
        · exact e)
    rw [this]
/-- heights play no part -/
theorem vers_put (t : Tab) (v : Ver) (h : Nat) : vers (put t v h) = (vers t).take (spot t v) ++ v :: (vers t).drop (spot t v) := by
  unfold put vers
  rw [List.map_append, List.map_cons, List.map_take, List.map_drop]
theorem there_of_same {a b : Tab} (h : vers a = vers b) (v : Ver) : there a v = there b v := by unfold there; rw [h]
theorem newest_of_same {a b : Tab} (h : vers a = vers b) (k : List UInt8) (s : Int) : newest a k s = newest b k s := by unfold newest; rw [h]
theorem from_of_same {a b : Tab} (h : vers a = vers b) (k : List UInt8) : from' a k = from' b k := by unfold from'; rw [h]
theorem bytes_of_same {a b : Tab} (h : vers a = vers b) : bytes a = bytes b := by unfold bytes; rw [h]
theorem mem_vers_put (t : Tab) (v : Ver) (h : Nat) (x : Ver) : x ∈ vers (put t v h) ↔ x = v ∨ x ∈ vers t := by
  unfold vers
  constructor
  · intro hx
    obtain ⟨y, hy, rfl⟩ := List.mem_map.1 hx
    rcases (mem_put t v h y).1 hy with rfl | hy
    · exact .inl rfl
    · exact .inr (List.mem_map_of_mem hy)
  · rintro (rfl | hx)
    · exact List.mem_map.2 ⟨(x, h), (mem_put t x h _).2 (.inl rfl), rfl⟩
    · obtain ⟨y, hy, rfl⟩ := List.mem_map.1 hx
      exact List.mem_map_of_mem ((mem_put t v h y).2 (.inr hy))
theorem there_put (t : Tab) (v : Ver) (h : Nat) (u : Ver) : there (put t v h) u = (placeB v u || there t u) := by
  unfold there
  rw [Bool.eq_iff_iff, Bool.or_eq_true, List.any_eq_true, List.any_eq_true]
  constructor
  · rintro ⟨x, hx, hp⟩
    rcases (mem_vers_put t v h x).1 hx with rfl | hx
    · exact .inl hp
    · exact .inr ⟨x, hx, hp⟩
  · rintro (hp | ⟨x, hx, hp⟩)
    · exact ⟨v, (mem_vers_put t v h v).2 (.inl rfl), hp⟩
    · exact ⟨x, (mem_vers_put t v h x).2 (.inr hx), hp⟩
theorem placeB_comm (a b : Ver) : placeB a b = placeB b a := by
  unfold placeB
  rw [Bool.eq_iff_iff, decide_eq_true_eq, decide_eq_true_eq]
  constructor <;> exact fun h => ⟨h.1.symm, h.2.symm⟩
/-- versions added one after another -/
def putAll (t : Tab) (P : List (Ver × Nat)) : Tab := P.foldl (fun t p => put t p.1 p.2) t
/-- no two of one place, and none of a place that is taken -/
def Fresh (t : Tab) (P : List (Ver × Nat)) : Prop := (P.Pairwise fun a b => placeB a.1 b.1 = false) ∧ ∀ p ∈ P, there t p.1 = false
theorem Fresh.tail {t : Tab} {p : Ver × Nat} {P : List (Ver × Nat)} (h : Fresh t (p :: P)) : Fresh (put t p.1 p.2) P := by
  obtain ⟨h1, h2⟩ := h
  rw [List.pairwise_cons] at h1
  exact ⟨h1.2, fun q hq => by rw [there_put, h1.1 q hq, h2 q (List.mem_cons_of_mem _ hq)]; rfl⟩
theorem putAll_ordered : ∀ (P : List (Ver × Nat)) {t : Tab}, Ordered t → Fresh t P → Ordered (putAll t P)
  | [], _, ht, _ => ht
  | p :: P, t, ht, hf => putAll_ordered P (put_ordered ht p.1 p.2 (hf.2 p (List.mem_cons_self ..))) hf.tail
theorem mem_putAll : ∀ (P : List (Ver × Nat)) (t : Tab) (x : Ver), x ∈ vers (putAll t P) ↔ x ∈ vers t ∨ x ∈ P.map (·.1)
  | [], t, x => by simp [putAll]
  | p :: P, t, x => by
    have := mem_putAll P (put t p.1 p.2) x
    rw [show putAll t (p :: P) = putAll (put t p.1 p.2) P from rfl, this, mem_vers_put, List.map_cons, List.mem_cons]
    constructor
    · rintro ((h | h) | h)
      · exact .inr (.inl h)
      · exact .inl h
      · exact .inr (.inr h)
    · rintro (h | h | h)
      · exact .inl (.inr h)
      · exact .inl (.inl h)
      · exact .inr h
/-- P6.8: the same versions, in whatever order, with whatever towers -/
theorem putAll_same {P Q : List (Ver × Nat)} (hP : Fresh [] P) (hQ : Fresh [] Q) (h : ∀ x, x ∈ P.map (·.1) ↔ x ∈ Q.map (·.1)) : vers (putAll [] P) = vers (putAll [] Q) := by
  have ho : Ordered [] := List.Pairwise.nil
  refine ordered_unique (putAll_ordered P ho hP) (putAll_ordered Q ho hQ) fun x => ?_
  rw [mem_putAll, mem_putAll, h x]
theorem fresh_nil {P : List (Ver × Nat)} (h : P.Pairwise fun a b => placeB a.1 b.1 = false) : Fresh [] P := ⟨h, fun _ _ => rfl⟩
/-- the other way round, with other towers -/
def turned (P : List (Ver × Nat)) : List (Ver × Nat) := P.reverse.map fun p => (p.1, 9 - p.2)
theorem turned_fresh {P : List (Ver × Nat)} (h : Fresh [] P) : Fresh [] (turned P) := by
  refine fresh_nil ?_
  unfold turned
  rw [List.pairwise_map, List.pairwise_reverse]
  exact h.1.imp fun {a b} hab => by rw [placeB_comm]; exact hab
theorem turned_same {P : List (Ver × Nat)} (h : Fresh [] P) : vers (putAll [] P) = vers (putAll [] (turned P)) := by
  refine putAll_same h (turned_fresh h) fun x => ?_
  unfold turned
  rw [List.map_map]
  simp
theorem putAll_snoc (t : Tab) (P : List (Ver × Nat)) (p : Ver × Nat) : putAll t (P ++ [p]) = put (putAll t P) p.1 p.2 := by simp [putAll]
/-- what is added with leave stays fresh -/
theorem fresh_snoc {P : List (Ver × Nat)} {p : Ver × Nat} (h : Fresh [] P) (hn : there (putAll [] P) p.1 = false) : Fresh [] (P ++ [p]) := by
  refine fresh_nil ?_
  rw [List.pairwise_append]
  refine ⟨h.1, List.pairwise_singleton _ _, fun a ha b hb => ?_⟩
  rw [List.mem_singleton] at hb
  subst hb
  unfold there at hn
  rw [List.any_eq_false] at hn
  simpa using hn a.1 ((mem_putAll P [] a.1).2 (.inr (List.mem_map_of_mem ha)))
/-- of a fresh list each is free when its turn comes -/
theorem fresh_turn {P Q : List (Ver × Nat)} {p : Ver × Nat} (h : Fresh [] (P ++ p :: Q)) : there (putAll [] P) p.1 = false := by
  unfold there
  rw [List.any_eq_false]
  intro x hx
  rw [mem_putAll] at hx
  rcases hx with hx | hx
  · cases hx
  · obtain ⟨q, hq, rfl⟩ := List.mem_map.1 hx
    have := (List.pairwise_append.1 h.1).2.2 q hq p (List.mem_cons_self ..)
    simpa using this
theorem put_len (t : Tab) (v : Ver) (h : Nat) : (put t v h).length = t.length + 1 := by
  unfold put
  rw [List.length_append, List.length_cons, List.length_take, List.length_drop]
  have : spot t v ≤ t.length := by unfold spot; exact (List.takeWhile_sublist _).length_le
  omega
theorem putAll_len : ∀ (P : List (Ver × Nat)) (t : Tab), (putAll t P).length = t.length + P.length
  | [], t => rfl
  | p :: P, t => by rw [show putAll t (p :: P) = putAll (put t p.1 p.2) P from rfl, putAll_len P, put_len, List.length_cons]; omega
end Mt
end Go.Proofs.Ytgfpkbdinfdkfaa
