import Derived.Test.YtpldfdlnhgmnaaaProg
import Derived.WalkKit
import Derived.WalkLawsBesides
import Derived.OwnWalk
import Derived.Lib.Hide
import Derived.BigQuiet
import Derived.Lib.MinMaxS
import Derived.Lib.SliceRun
import Derived.Lib.AppendZeros
import Derived.Laws.AppendOwnNone
import Derived.Deep.RegionWith
import Derived.Deep.DeepCutAuto
import Derived.Deep.Cut
import Derived.Deep.CutRange
import Derived.Deep.CutBlock
import Derived.Test.YtpldfdlnhgmnaaaPart4
/-
  Plain mathematics of P10.3: what an edit makes of live tables, table by table; what stands in a level. No program is named here.
-/
namespace Go.Proofs.Ytpldfdlnhgmnaaa
set_option linter.unusedVariables false
set_option linter.unusedSimpArgs false
namespace Mf
open Op (bytesLess)
/-- may a key lie in both? -/
def over (x y : Tbl) : Bool := !bytesLess x.hi y.lo && !bytesLess y.hi x.lo
/-- one table more; none: it can't be added -/
def addOne (next : Int) (t : List (List Tbl)) (x : Tbl) : Option (List (List Tbl)) :=
  if (numsT t 4).contains x.num || decide (next ≤ x.num) then none
  else if decide (0 < x.lev) && (t.getD x.lev.toNat []).any (fun y => over y x) then none
  else some (t.set x.lev.toNat (putP (t.getD x.lev.toNat []) x))
def addAll (next : Int) : List Tbl → List (List Tbl) → Option (List (List Tbl))
  | [], t => some t
  | x :: r, t => (addOne next t x).bind (addAll next r)
/-- each number that is dropped is there, and stands once -/
def dropsOk (had : List Int) (d : List Int) : Bool := (List.range d.length).all fun i => had.contains (d.getD i 0) && !(d.take i).contains (d.getD i 0)
/-- what is not dropped -/
def stay (d : List Int) (t : List (List Tbl)) : List (List Tbl) := (List.range 4).map fun k => (t.getD k []).filter fun x => !d.contains x.num
/-- what the chapter's Apply makes of an edit that may be; none: ErrForm -/
def applyP (l : Lv) (e : Ed) : Option Lv :=
  if e.next < l.next ∨ e.seq < l.seq ∨ e.log < l.log then none
  else if dropsOk (numsP l) e.drop = false then none
  else (addAll e.next e.add (stay e.drop l.t)).map fun t => ⟨e.next, e.seq, e.log, t⟩
/-! what is true of live tables that edits made of nothing -/
def kLt (k : Nat) (x y : Tbl) : Bool := if k = 0 then decide (x.num < y.num) else bytesLess x.lo y.lo
/-- a level: its tables may be, are of this level, rise, and none overlaps another one -/
structure LevOk (k : Nat) (L : List Tbl) : Prop where
  may : ∀ x ∈ L, mayT x = true
  lev : ∀ x ∈ L, x.lev = (k : Int)
  rise : L.Pairwise fun x y => kLt k x y = true
  apart : 0 < k → L.Pairwise fun x y => over x y = false
theorem levOk_nil (k : Nat) : LevOk k [] := ⟨fun x h => (by cases h), fun x h => (by cases h), List.Pairwise.nil, fun _ => List.Pairwise.nil⟩
theorem LevOk.filter {k : Nat} {L : List Tbl} (h : LevOk k L) (p : Tbl → Bool) : LevOk k (L.filter p) :=
  ⟨fun x hx => h.may x ((List.mem_filter.1 hx).1), fun x hx => h.lev x ((List.mem_filter.1 hx).1), h.rise.filter p, fun h0 => (h.apart h0).filter p⟩
theorem over_comm (x y : Tbl) : over x y = over y x := by unfold over; rw [Bool.and_comm]
theorem bef_lev {k : Nat} {x : Tbl} (hx : x.lev = (k : Int)) (y : Tbl) : bef x y = kLt k y x := by
  unfold bef kLt
  by_cases h : k = 0
  · subst h; rw [if_pos (by simpa using hx), if_pos rfl]
  · rw [if_neg (by omega), if_neg h]
theorem bl_irrefl : ∀ a : List UInt8, bytesLess a a = false
  | [] => rfl
  | a :: r => by rw [Cd.bl_cons, bl_irrefl r]; simp
theorem bl_trans : ∀ a b c : List UInt8, bytesLess a b = true → bytesLess b c = true → bytesLess a c = true
  | [], [], _, h, _ => by cases h
  | _ :: _, [], _, h, _ => by cases h
  | [], _ :: _, [], _, h => by cases h
  | [], _ :: _, _ :: _, _, _ => rfl
  | _ :: _, _ :: _, [], _, h => by cases h
  | a :: x, b :: y, c :: z, h1, h2 => by
    rw [Cd.bl_cons] at h1 h2 ⊢
    have ih := bl_trans x y z
    simp only [Bool.or_eq_true, Bool.and_eq_true, decide_eq_true_eq, beq_iff_eq] at h1 h2 ⊢
    rcases h1 with h1 | ⟨h1, h1'⟩ <;> rcases h2 with h2 | ⟨h2, h2'⟩
    · exact .inl (by omega)
    · exact .inl (by omega)
    · exact .inl (by omega)
    · exact .inr ⟨by omega, ih h1' h2'⟩
theorem bl_total (a b : List UInt8) : bytesLess a b = true ∨ a = b ∨ bytesLess b a = true := by
  have h := bl_le a b
  cases h1 : bytesLess a b with
  | true => exact .inl rfl
  | false =>
    rw [h1, Bool.false_or] at h
    by_cases e : a = b
    · exact .inr (.inl e)
    · have : (a == b) = false := by simpa using e
      rw [this] at h
      exact .inr (.inr (by simpa using h.symm))
theorem kLt_trans (k : Nat) {x y z : Tbl} (h1 : kLt k x y = true) (h2 : kLt k y z = true) : kLt k x z = true := by
  unfold kLt at *
  split
  · rename_i h; rw [if_pos h] at h1 h2; have := of_decide_eq_true h1; have := of_decide_eq_true h2; exact decide_eq_true (by omega)
  · rename_i h; rw [if_neg h] at h1 h2; exact bl_trans _ _ _ h1 h2
theorem kLt_irrefl (k : Nat) (x : Tbl) : kLt k x x = false := by
  unfold kLt
  split
  · exact decide_eq_false (by omega)
  · exact bl_irrefl _
theorem kLt_asymm (k : Nat) {x y : Tbl} (h : kLt k x y = true) : kLt k y x = false := by
  cases h2 : kLt k y x with
  | false => rfl
  | true => have := kLt_trans k h h2; rw [kLt_irrefl] at this; cases this
end Mf
end Go.Proofs.Ytpldfdlnhgmnaaa

/-
  Plain mathematics of P10.3: a table that fits is put in its place; levels stay in order. No program is named here.
-/
namespace Go.Proofs.Ytpldfdlnhgmnaaa
set_option linter.unusedVariables false
set_option linter.unusedSimpArgs false
namespace Mf
open Op (bytesLess)
theorem posP_le (L : List Tbl) (x : Tbl) : posP L x ≤ L.length := (List.takeWhile_prefix _).length_le
theorem take_pos (L : List Tbl) (x : Tbl) : L.take (posP L x) = L.takeWhile (bef x) := by
  unfold posP
  exact (List.prefix_iff_eq_take.1 (List.takeWhile_prefix (bef x))).symm
theorem drop_pos (L : List Tbl) (x : Tbl) : L.drop (posP L x) = L.dropWhile (bef x) := by
  have h1 := List.take_append_drop (posP L x) L
  have h2 := List.takeWhile_append_dropWhile (p := bef x) (l := L)
  rw [take_pos] at h1
  exact List.append_cancel_left (h1.trans h2.symm)
theorem putP_eq (L : List Tbl) (x : Tbl) : putP L x = L.takeWhile (bef x) ++ (x :: L.dropWhile (bef x)) := by
  unfold putP
  rw [take_pos, drop_pos, List.append_assoc]
  rfl
theorem putP_perm (L : List Tbl) (x : Tbl) : (putP L x).Perm (x :: L) := by
  rw [putP_eq]
  have h := List.takeWhile_append_dropWhile (p := bef x) (l := L)
  refine List.perm_middle.trans ?_
  rw [h]
theorem mem_putP {L : List Tbl} {x y : Tbl} : y ∈ putP L x ↔ y = x ∨ y ∈ L := by rw [(putP_perm L x).mem_iff, List.mem_cons]
/-- of two tables that may be, that have other numbers and don't overlap where they may not, one stands ahead -/
theorem ne_tot {k : Nat} {x y : Tbl} (hx : mayT x = true) (hy : mayT y = true) (hn : x.num ≠ y.num) (ho : 0 < k → over y x = false) : kLt k x y = true ∨ kLt k y x = true := by
  unfold kLt
  by_cases h : k = 0
  · rw [if_pos h, if_pos h]
    rcases Int.lt_or_gt_of_ne hn with h1 | h1
    · exact .inl (decide_eq_true h1)
    · exact .inr (decide_eq_true h1)
  · rw [if_neg h, if_neg h]
    rcases bl_total x.lo y.lo with h1 | h1 | h1
    · exact .inl h1
    · exfalso
      have h2 := ho (by omega)
      have mx : bytesLess x.hi x.lo = false := by
        unfold mayT at hx; simp only [Bool.and_eq_true] at hx; simpa using hx.2
      have my : bytesLess y.hi y.lo = false := by
        unfold mayT at hy; simp only [Bool.and_eq_true] at hy; simpa using hy.2
      unfold over at h2
      rw [h1, my, ← h1, mx] at h2
      cases h2
    · exact .inr h1
/-- a table fits into a level -/
structure Fits (k : Nat) (L : List Tbl) (x : Tbl) : Prop where
  may : mayT x = true
  lev : x.lev = (k : Int)
  num : ∀ y ∈ L, x.num ≠ y.num
  apart : 0 < k → ∀ y ∈ L, over y x = false
theorem mem_takeWhile_of {p : Tbl → Bool} : ∀ {L : List Tbl} {y : Tbl}, y ∈ L.takeWhile p → p y = true
  | a :: r, y, h => by
    rw [List.takeWhile_cons] at h
    cases ha : p a with
    | false => rw [ha] at h; cases h
    | true =>
      rw [ha] at h
      simp only [if_true] at h
      rcases List.mem_cons.1 h with rfl | h
      · exact ha
      · exact mem_takeWhile_of h
theorem putP_ok {k : Nat} {L : List Tbl} {x : Tbl} (h : LevOk k L) (f : Fits k L x) : LevOk k (putP L x) := by
  have hsp := List.takeWhile_append_dropWhile (p := bef x) (l := L)
  have hA : ∀ y ∈ L.takeWhile (bef x), kLt k y x = true := fun y hy => by rw [← bef_lev f.lev]; exact mem_takeWhile_of hy
  have hrise := h.rise
  rw [← hsp, List.pairwise_append] at hrise
  obtain ⟨r1, r2, r3⟩ := hrise
  have hB : ∀ y ∈ L.dropWhile (bef x), kLt k x y = true := by
    intro y hy
    cases hd : L.dropWhile (bef x) with
    | nil => rw [hd] at hy; cases hy
    | cons b r =>
      have hb : bef x b = false := by
        have h9 := List.head_dropWhile_not (p := bef x) (l := L) (by rw [hd]; simp)
        simp only [hd, List.head_cons] at h9
        simpa using h9
      have hbm : b ∈ L := by rw [← hsp, hd]; simp
      have hxb : kLt k x b = true := by
        rcases ne_tot f.may (h.may b hbm) (f.num b hbm) (fun h0 => f.apart h0 b hbm) with h1 | h1
        · exact h1
        · rw [← bef_lev f.lev, hb] at h1; cases h1
      rw [hd] at hy r2
      rcases List.mem_cons.1 hy with rfl | hy
      · exact hxb
      · exact kLt_trans k hxb ((List.pairwise_cons.1 r2).1 y hy)
  refine ⟨fun y hy => ?_, fun y hy => ?_, ?_, fun h0 => ?_⟩
  · rcases mem_putP.1 hy with rfl | hy
    · exact f.may
    · exact h.may y hy
  · rcases mem_putP.1 hy with rfl | hy
    · exact f.lev
    · exact h.lev y hy
  · rw [putP_eq, List.pairwise_append]
    refine ⟨r1, List.pairwise_cons.2 ⟨hB, r2⟩, fun a ha b hb => ?_⟩
    rcases List.mem_cons.1 hb with rfl | hb
    · exact hA a ha
    · exact kLt_trans k (hA a ha) (hB b hb)
  · have hp : (x :: L).Pairwise fun a b => over a b = false := List.pairwise_cons.2 ⟨fun y hy => by rw [over_comm]; exact f.apart h0 y hy, h.apart h0⟩
    exact (putP_perm L x).symm.pairwise hp (fun {a b} hab => by rw [over_comm]; exact hab)
/-- a list that rises is the only one of its tables that does -/
theorem rise_unique {k : Nat} : ∀ {L M : List Tbl}, L.Perm M → (L.Pairwise fun x y => kLt k x y = true) → (M.Pairwise fun x y => kLt k x y = true) → L = M
  | [], M, hp, _, _ => (List.nil_perm.1 hp).symm
  | x :: r, M, hp, hl, hm => by
    cases M with
    | nil => exact absurd hp.length_eq (by simp)
    | cons y s =>
      obtain ⟨l1, l2⟩ := List.pairwise_cons.1 hl
      obtain ⟨m1, m2⟩ := List.pairwise_cons.1 hm
      have hxy : x = y := by
        have hx : x ∈ y :: s := hp.mem_iff.1 (List.mem_cons_self ..)
        have hy : y ∈ x :: r := hp.mem_iff.2 (List.mem_cons_self ..)
        rcases List.mem_cons.1 hx with e | hx
        · exact e
        · rcases List.mem_cons.1 hy with e | hy
          · exact e.symm
          · have h1 := l1 y hy
            have h2 := m1 x hx
            rw [kLt_asymm k h1] at h2
            cases h2
      subst hxy
      rw [rise_unique ((List.perm_cons x).1 hp) l2 m2]
end Mf
end Go.Proofs.Ytpldfdlnhgmnaaa

/-
  Plain mathematics of P10.3: all tables of an edit are added if, and only if, they may be all together; then each level has what stood there and what was added. No program is named here.
-/
namespace Go.Proofs.Ytpldfdlnhgmnaaa
set_option linter.unusedVariables false
set_option linter.unusedSimpArgs false
namespace Mf
/-- four levels in order, no number twice -/
structure T4 (t : List (List Tbl)) : Prop where
  four : t.length = 4
  lev : ∀ k, k < 4 → LevOk k (t.getD k [])
  nums : (numsT t 4).Nodup
theorem four_of {t : List (List Tbl)} (h : t.length = 4) : ∃ a b c d, t = [a, b, c, d] := by
  match t, h with
  | [a, b, c, d], _ => exact ⟨a, b, c, d, rfl⟩
theorem mem_nums {t : List (List Tbl)} (h : t.length = 4) {n : Int} : n ∈ numsT t 4 ↔ ∃ k, k < 4 ∧ ∃ y ∈ t.getD k [], y.num = n := by
  obtain ⟨a, b, c, d, rfl⟩ := four_of h
  simp only [numsT, List.nil_append, List.mem_append, List.mem_map]
  constructor
  · rintro (((⟨y, hy, e⟩ | ⟨y, hy, e⟩) | ⟨y, hy, e⟩) | ⟨y, hy, e⟩)
    · exact ⟨0, by omega, y, hy, e⟩
    · exact ⟨1, by omega, y, hy, e⟩
    · exact ⟨2, by omega, y, hy, e⟩
    · exact ⟨3, by omega, y, hy, e⟩
  · rintro ⟨k, hk, y, hy, e⟩
    have : k = 0 ∨ k = 1 ∨ k = 2 ∨ k = 3 := by omega
    rcases this with rfl | rfl | rfl | rfl
    · exact .inl (.inl (.inl ⟨y, hy, e⟩))
    · exact .inl (.inl (.inr ⟨y, hy, e⟩))
    · exact .inl (.inr ⟨y, hy, e⟩)
    · exact .inr ⟨y, hy, e⟩
theorem nums_set {t : List (List Tbl)} (h : t.length = 4) {k : Nat} (hk : k < 4) (x : Tbl) : (numsT (t.set k (putP (t.getD k []) x)) 4).Perm (x.num :: numsT t 4) := by
  obtain ⟨a, b, c, d, rfl⟩ := four_of h
  have hp := fun (L : List Tbl) (n : Int) => ((putP_perm L x).map (·.num)).count_eq n
  apply List.perm_iff_count.2
  intro n
  have : k = 0 ∨ k = 1 ∨ k = 2 ∨ k = 3 := by omega
  rcases this with rfl | rfl | rfl | rfl
  · have := hp a n; simp [numsT, List.count_append, List.count_cons] at this ⊢; omega
  · have := hp b n; simp [numsT, List.count_append, List.count_cons] at this ⊢; omega
  · have := hp c n; simp [numsT, List.count_append, List.count_cons] at this ⊢; omega
  · have := hp d n; simp [numsT, List.count_append, List.count_cons] at this ⊢; omega
theorem getD_set {t : List (List Tbl)} (h : t.length = 4) {k : Nat} (hk : k < 4) (v : List Tbl) (j : Nat) : (t.set k v).getD j [] = if k = j then v else t.getD j [] := by
  by_cases e : k = j
  · subst e
    rw [if_pos rfl, List.getD_eq_getElem?_getD, List.getElem?_set_self (by omega)]
    rfl
  · rw [if_neg e, List.getD_eq_getElem?_getD, List.getElem?_set_ne e, List.getD_eq_getElem?_getD]
/-- may one more be added? -/
def Good1 (next : Int) (t : List (List Tbl)) (x : Tbl) : Prop := x.num ∉ numsT t 4 ∧ x.num < next ∧ (0 < x.lev → ∀ y ∈ t.getD x.lev.toNat [], over y x = false)
theorem addOne_iff {next : Int} {t t' : List (List Tbl)} {x : Tbl} : addOne next t x = some t' ↔ Good1 next t x ∧ t' = t.set x.lev.toNat (putP (t.getD x.lev.toNat []) x) := by
  unfold addOne Good1
  constructor
  · intro h
    split at h
    · cases h
    · rename_i h1
      split at h
      · cases h
      · rename_i h2
        simp only [Bool.or_eq_true, List.contains_iff_mem, decide_eq_true_eq, not_or] at h1
        simp only [Bool.and_eq_true, decide_eq_true_eq, List.any_eq_true, not_and, not_exists] at h2
        refine ⟨⟨h1.1, by omega, fun h0 y hy => ?_⟩, (Option.some.inj h).symm⟩
        have := h2 h0 y hy
        simpa using this
  · rintro ⟨⟨h1, h2, h3⟩, rfl⟩
    rw [if_neg, if_neg]
    · simp only [Bool.and_eq_true, decide_eq_true_eq, List.any_eq_true, not_and, not_exists]
      intro h0 y hy
      rw [h3 h0 y hy]; simp
    · simp only [Bool.or_eq_true, List.contains_iff_mem, decide_eq_true_eq, not_or]
      exact ⟨h1, by omega⟩
theorem lev_nat {x : Tbl} (h : mayT x = true) : x.lev.toNat < 4 ∧ x.lev = (x.lev.toNat : Int) := by
  have := tok h
  have := this.l0
  have := (tok h).l1
  omega
theorem T4.add {next : Int} {t : List (List Tbl)} {x : Tbl} (h : T4 t) (hx : mayT x = true) (g : Good1 next t x) : T4 (t.set x.lev.toNat (putP (t.getD x.lev.toNat []) x)) := by
  obtain ⟨h1, h2⟩ := lev_nat hx
  refine ⟨by simp [h.four], fun k hk => ?_, ?_⟩
  · rw [getD_set h.four h1]
    split
    · rename_i e
      subst e
      exact putP_ok (h.lev _ hk) ⟨hx, h2, fun y hy e => g.1 ((mem_nums h.four).2 ⟨_, hk, y, hy, e.symm⟩), fun h0 => g.2.2 (by omega)⟩
    · exact h.lev k hk
  · exact ((nums_set h.four h1 x).nodup_iff).2 (List.nodup_cons.2 ⟨g.1, h.nums⟩)
/-- may all of these be added together? -/
structure Good (next : Int) (t : List (List Tbl)) (A : List Tbl) : Prop where
  nums : (A.map (·.num) ++ numsT t 4).Nodup
  low : ∀ x ∈ A, x.num < next
  apart : ∀ k : Nat, 0 < k → k < 4 → (A.filter (fun x => x.lev == (k : Int)) ++ t.getD k []).Pairwise fun x y => over x y = false
/-- what is added, level by level -/
def Added (t : List (List Tbl)) (A : List Tbl) (t' : List (List Tbl)) : Prop := ∀ k : Nat, k < 4 → (t'.getD k []).Perm (A.filter (fun x => x.lev == (k : Int)) ++ t.getD k [])
theorem pw_perm {L M : List Tbl} (h : L.Perm M) : (L.Pairwise fun x y => over x y = false) ↔ (M.Pairwise fun x y => over x y = false) :=
  h.pairwise_iff (fun {a b} hab => by rw [over_comm]; exact hab)
theorem filter_lev {x : Tbl} (h : mayT x = true) (r : List Tbl) (k : Nat) : (x :: r).filter (fun y => y.lev == (k : Int)) = if x.lev.toNat = k then x :: r.filter (fun y => y.lev == (k : Int)) else r.filter (fun y => y.lev == (k : Int)) := by
  have h2 := (lev_nat h).2
  rw [List.filter_cons]
  by_cases e : x.lev.toNat = k
  · rw [if_pos e, if_pos (by simp; omega)]
  · rw [if_neg e, if_neg (by simp; omega)]
theorem addAll_some {next : Int} : ∀ (A : List Tbl) (t t' : List (List Tbl)), T4 t → (∀ x ∈ A, mayT x = true) → addAll next A t = some t' → T4 t' ∧ Good next t A ∧ Added t A t'
  | [], t, t', h, _, he => by
    obtain rfl : t = t' := Option.some.inj he
    exact ⟨h, ⟨by simpa using h.nums, fun x hx => (by cases hx), fun k h0 hk => by simpa using (h.lev k hk).apart h0⟩, fun k hk => by simp⟩
  | x :: r, t, t', h, hm, he => by
    rw [addAll, Option.bind_eq_some_iff] at he
    obtain ⟨t1, h1, h2⟩ := he
    obtain ⟨g, rfl⟩ := addOne_iff.1 h1
    have hx := hm x (List.mem_cons_self ..)
    obtain ⟨hk0, hk1⟩ := lev_nat hx
    obtain ⟨i1, i2, i3⟩ := addAll_some r _ t' (h.add hx g) (fun y hy => hm y (List.mem_cons_of_mem _ hy)) h2
    have hperm : ∀ k : Nat, k < 4 → (r.filter (fun y => y.lev == (k : Int)) ++ (t.set x.lev.toNat (putP (t.getD x.lev.toNat []) x)).getD k []).Perm ((x :: r).filter (fun y => y.lev == (k : Int)) ++ t.getD k []) := fun k hk => by
      rw [getD_set h.four hk0, filter_lev hx]
      by_cases e : x.lev.toNat = k
      · subst e
        rw [if_pos rfl, if_pos rfl]
        exact ((putP_perm _ x).append_left _).trans List.perm_middle
      · rw [if_neg e, if_neg e]
    refine ⟨i1, ⟨?_, fun y hy => ?_, fun k h0 hk => ?_⟩, fun k hk => (i3 k hk).trans (hperm k hk)⟩
    · have := i2.nums
      rw [List.map_cons, List.cons_append]
      refine (List.Perm.nodup_iff ?_).1 this
      exact ((nums_set h.four hk0 x).append_left _).trans List.perm_middle
    · rcases List.mem_cons.1 hy with rfl | hy
      · exact g.2.1
      · exact i2.low y hy
    · exact (pw_perm (hperm k hk)).1 (i2.apart k h0 hk)
theorem addAll_good {next : Int} : ∀ (A : List Tbl) (t : List (List Tbl)), T4 t → (∀ x ∈ A, mayT x = true) → Good next t A → ∃ t', addAll next A t = some t'
  | [], t, _, _, _ => ⟨t, rfl⟩
  | x :: r, t, h, hm, g => by
    have hx := hm x (List.mem_cons_self ..)
    obtain ⟨hk0, hk1⟩ := lev_nat hx
    have hn := g.nums
    rw [List.map_cons, List.cons_append] at hn
    have hnc := List.nodup_cons.1 hn
    have g1 : Good1 next t x := ⟨fun hmem => hnc.1 (List.mem_append_right _ hmem), g.low x (List.mem_cons_self ..), fun h0 y hy => by
      have ha := g.apart x.lev.toNat (by omega) hk0
      rw [filter_lev hx, if_pos rfl, List.cons_append] at ha
      rw [over_comm]
      exact (List.pairwise_cons.1 ha).1 y (List.mem_append_right _ hy)⟩
    have hperm : ∀ k : Nat, k < 4 → (r.filter (fun y => y.lev == (k : Int)) ++ (t.set x.lev.toNat (putP (t.getD x.lev.toNat []) x)).getD k []).Perm ((x :: r).filter (fun y => y.lev == (k : Int)) ++ t.getD k []) := fun k hk => by
      rw [getD_set h.four hk0, filter_lev hx]
      by_cases e : x.lev.toNat = k
      · subst e
        rw [if_pos rfl, if_pos rfl]
        exact ((putP_perm _ x).append_left _).trans List.perm_middle
      · rw [if_neg e, if_neg e]
    have g2 : Good next (t.set x.lev.toNat (putP (t.getD x.lev.toNat []) x)) r := ⟨(List.Perm.nodup_iff (((nums_set h.four hk0 x).append_left _).trans List.perm_middle)).2 hn, fun y hy => g.low y (List.mem_cons_of_mem _ hy), fun k h0 hk => (pw_perm (hperm k hk)).2 (g.apart k h0 hk)⟩
    obtain ⟨t', ht⟩ := addAll_good r _ (h.add hx g1) (fun y hy => hm y (List.mem_cons_of_mem _ hy)) g2
    exact ⟨t', by rw [addAll, addOne_iff.2 ⟨g1, rfl⟩]; exact ht⟩
end Mf
end Go.Proofs.Ytpldfdlnhgmnaaa

/-
  Plain mathematics of P10.3: what the program asks of an edit, all at once, is what the chapter asks, table by table. No program is named here.
-/
namespace Go.Proofs.Ytpldfdlnhgmnaaa
set_option linter.unusedVariables false
set_option linter.unusedSimpArgs false
namespace Mf
open Op (bytesLess)
theorem stay_lev (d : List Int) (t : List (List Tbl)) {k : Nat} (hk : k < 4) : (stay d t).getD k [] = (t.getD k []).filter fun x => !d.contains x.num := by
  unfold stay
  rw [List.getD_eq_getElem?_getD, List.getElem?_map, List.getElem?_range hk]
  rfl
theorem stay_four (d : List Int) (t : List (List Tbl)) : (stay d t).length = 4 := by simp [stay]
theorem nums_app (t : List (List Tbl)) : numsT t 4 = (t.getD 0 [] ++ t.getD 1 [] ++ t.getD 2 [] ++ t.getD 3 []).map (·.num) := by
  simp [numsT]
theorem T4.stay {t : List (List Tbl)} (h : T4 t) (d : List Int) : T4 (stay d t) := by
  refine ⟨stay_four d t, fun k hk => ?_, ?_⟩
  · rw [stay_lev d t hk]
    exact (h.lev k hk).filter _
  · rw [nums_app, stay_lev d t (by omega), stay_lev d t (by omega), stay_lev d t (by omega), stay_lev d t (by omega), ← List.filter_append, ← List.filter_append, ← List.filter_append]
    have := h.nums
    rw [nums_app] at this
    exact this.sublist (List.Sublist.map _ List.filter_sublist)
theorem mem_stay {t : List (List Tbl)} {d : List Int} {n : Int} (h : t.length = 4) : n ∈ numsT (stay d t) 4 ↔ n ∈ numsT t 4 ∧ n ∉ d := by
  rw [mem_nums (stay_four d t), mem_nums h]
  constructor
  · rintro ⟨k, hk, y, hy, e⟩
    rw [stay_lev d t hk, List.mem_filter] at hy
    subst e
    exact ⟨⟨k, hk, y, hy.1, rfl⟩, by simpa using hy.2⟩
  · rintro ⟨⟨k, hk, y, hy, e⟩, hn⟩
    subst e
    exact ⟨k, hk, y, by rw [stay_lev d t hk, List.mem_filter]; exact ⟨hy, by simpa using hn⟩, rfl⟩
/-- each number that is dropped is there, and stands once -/
theorem dropsOk_iff (had d : List Int) : dropsOk had d = true ↔ d.Nodup ∧ ∀ n ∈ d, n ∈ had := by
  unfold dropsOk
  rw [List.all_eq_true]
  constructor
  · intro h
    have hg : ∀ i (hi : i < d.length), d[i] ∈ had ∧ d[i] ∉ d.take i := fun i hi => by
      have := h i (List.mem_range.2 hi)
      rw [Bool.and_eq_true, List.getD_eq_getElem?_getD, List.getElem?_eq_getElem hi, Option.getD_some] at this
      exact ⟨by simpa using this.1, by simpa using this.2⟩
    refine ⟨?_, fun n hn => ?_⟩
    · rw [List.Nodup, List.pairwise_iff_getElem]
      intro i j hi hj hij e
      exact (hg j hj).2 (by rw [← e]; exact List.mem_take_iff_getElem.2 ⟨i, by omega, rfl⟩)
    · obtain ⟨i, hi, rfl⟩ := List.getElem_of_mem hn
      exact (hg i hi).1
  · rintro ⟨h1, h2⟩ i hi
    have hi := List.mem_range.1 hi
    rw [Bool.and_eq_true, List.getD_eq_getElem?_getD, List.getElem?_eq_getElem hi, Option.getD_some]
    refine ⟨by simpa using h2 _ (List.getElem_mem hi), ?_⟩
    have : d[i] ∉ d.take i := fun hm => by
      obtain ⟨j, hj, e⟩ := List.mem_take_iff_getElem.1 hm
      rw [List.Nodup, List.pairwise_iff_getElem] at h1
      exact h1 j i (by omega) hi (by omega) e
    simpa using this
/-- what the program asks, all at once -/
structure GoodD (next : Int) (t : List (List Tbl)) (d : List Int) (A : List Tbl) : Prop where
  once : (A.map (·.num)).Nodup
  low : ∀ x ∈ A, x.num < next
  free : ∀ k : Nat, k < 4 → ∀ y ∈ t.getD k [], y.num ∉ d → y.num ∉ A.map (·.num)
  apart : ∀ k : Nat, 0 < k → k < 4 → ((stay d t).getD k [] ++ A.filter (fun x => x.lev == (k : Int))).Pairwise fun x y => over x y = false
theorem good_iff {next : Int} {t : List (List Tbl)} {d : List Int} {A : List Tbl} (h : T4 t) : Good next (stay d t) A ↔ GoodD next t d A := by
  constructor
  · rintro ⟨h1, h2, h3⟩
    rw [List.nodup_append] at h1
    refine ⟨h1.1, h2, fun k hk y hy hn hm => ?_, fun k h0 hk => (pw_perm List.perm_append_comm).1 (h3 k h0 hk)⟩
    exact h1.2.2 _ hm _ ((mem_stay h.four).2 ⟨(mem_nums h.four).2 ⟨k, hk, y, hy, rfl⟩, hn⟩) rfl
  · rintro ⟨h1, h2, h3, h4⟩
    refine ⟨List.nodup_append.2 ⟨h1, (h.stay d).nums, fun a ha b hb e => ?_⟩, h2, fun k h0 hk => (pw_perm List.perm_append_comm).1 (h4 k h0 hk)⟩
    subst e
    obtain ⟨hb1, hb2⟩ := (mem_stay h.four).1 hb
    obtain ⟨k, hk, y, hy, e⟩ := (mem_nums h.four).1 hb1
    subst e
    exact h3 k hk y hy hb2 ha
/-! a list that stands by rising keys: two overlap if, and only if, two neighbours do -/
def adj : List Tbl → Bool
  | x :: y :: r => over x y || adj (y :: r)
  | _ => false
/-- no key stands ahead of an elder one -/
def byKey (L : List Tbl) : Prop := L.Pairwise fun x y => bytesLess y.lo x.lo = false
theorem may_lo {x : Tbl} (h : mayT x = true) : bytesLess x.hi x.lo = false := by
  unfold mayT at h; simp only [Bool.and_eq_true] at h; simpa using h.2
/-- not above, not above: not above -/
theorem nl_trans {a b c : List UInt8} (h1 : bytesLess b a = false) (h2 : bytesLess c b = false) : bytesLess c a = false := by
  cases h : bytesLess c a with
  | false => rfl
  | true =>
    rcases bl_total b c with h3 | h3 | h3
    · rw [bl_trans _ _ _ h3 h] at h1; cases h1
    · subst h3; rw [h] at h1; cases h1
    · rw [h3] at h2; cases h2
theorem over_next {x y : Tbl} (hy : mayT y = true) (hk : bytesLess y.lo x.lo = false) : over x y = !bytesLess x.hi y.lo := by
  unfold over
  rw [nl_trans hk (may_lo hy)]
  simp
theorem adj_iff : ∀ {L : List Tbl}, (∀ x ∈ L, mayT x = true) → byKey L → (adj L = false ↔ L.Pairwise fun x y => over x y = false)
  | [], _, _ => by simp [adj]
  | [x], _, _ => by simp [adj]
  | x :: y :: r, hm, hk => by
    obtain ⟨k1, k2⟩ := List.pairwise_cons.1 hk
    have ih := adj_iff (L := y :: r) (fun z hz => hm z (List.mem_cons_of_mem _ hz)) k2
    have hy := hm y (by simp)
    rw [adj, Bool.or_eq_false_iff, ih]
    constructor
    · rintro ⟨h1, h2⟩
      refine List.pairwise_cons.2 ⟨fun z hz => ?_, h2⟩
      rcases List.mem_cons.1 hz with rfl | hz
      · exact h1
      · have hzm := hm z (by simp [hz])
        rw [over_next hy (k1 y (by simp))] at h1
        rw [over_next hzm (k1 z (by simp [hz]))]
        have h3 : bytesLess x.hi y.lo = true := by simpa using h1
        have h4 := (List.pairwise_cons.1 k2).1 z hz
        have h5 : bytesLess x.hi z.lo = true := by
          rcases bl_total x.hi z.lo with h6 | h6 | h6
          · exact h6
          · rw [← h6] at h4; rw [h3] at h4; cases h4
          · rw [bl_trans _ _ _ h6 h3] at h4; cases h4
        rw [h5]; rfl
    · intro h
      obtain ⟨h1, h2⟩ := List.pairwise_cons.1 h
      exact ⟨h1 y (by simp), h2⟩
/-- a list by rising keys (or numbers) none of whose tables may not stand together rises -/
theorem rise_of_sorted {k : Nat} {L : List Tbl} (hm : ∀ x ∈ L, mayT x = true) (hn : (L.map (·.num)).Nodup) (ho : 0 < k → L.Pairwise fun x y => over x y = false) (hs : L.Pairwise fun x y => kLt k y x = false) : L.Pairwise fun x y => kLt k x y = true := by
  have hn2 : L.Pairwise fun x y => x.num ≠ y.num := by
    rw [List.Nodup, List.pairwise_map] at hn
    exact hn
  induction L with
  | nil => exact List.Pairwise.nil
  | cons x r ih =>
    obtain ⟨s1, s2⟩ := List.pairwise_cons.1 hs
    obtain ⟨n1, n2⟩ := List.pairwise_cons.1 hn2
    refine List.pairwise_cons.2 ⟨fun y hy => ?_, ih (fun z hz => hm z (List.mem_cons_of_mem _ hz)) (by rw [List.map_cons] at hn; exact (List.nodup_cons.1 hn).2) (fun h0 => (List.pairwise_cons.1 (ho h0)).2) s2 n2⟩
    rcases ne_tot (k := k) (hm x (by simp)) (hm y (by simp [hy])) (n1 y hy) (fun h0 => by rw [over_comm]; exact (List.pairwise_cons.1 (ho h0)).1 y hy) with h | h
    · exact h
    · rw [s1 y hy] at h; cases h
end Mf
end Go.Proofs.Ytpldfdlnhgmnaaa

/-
  A Live of the call's own: its box, its four rows, each in a block of its own; what keeps it, what puts another row into a level.
-/
namespace Go.Proofs.Ytpldfdlnhgmnaaa
open Go.RowKit
set_option linter.unusedSimpArgs false
set_option linter.unusedVariables false
namespace Mf
/-- the Live in block b: rows at B or above, no two in one block, none in the box -/
structure LvS (B b : Nat) (n s g : Int) (t : List (List Tbl)) (u : Nat → Value) (W : World) : Prop where
  box : Ob.Obj W b 27 [.int .u64 n, .int .u64 s, .int .u64 g, u 0, u 1, u 2, u 3]
  row : ∀ k, k < 4 → W.ownsRow B 38 6 (u k) (t.getD k []).length (tcs (t.getD k []))
  dis : ∀ i j, i < 4 → j < 4 → i ≠ j → ∀ r, (u i).ownBlock = some r → (u j).ownBlock ≠ some r
  four : t.length = 4
variable {B b : Nat} {n s g : Int} {t : List (List Tbl)} {u : Nat → Value} {W W2 : World}
theorem LvS.below (h : LvS B b n s g t u W) (hb : Below W.heap.size W W2) : LvS B b n s g t u W2 :=
  ⟨h.box.below hb, fun k hk => own_below (h.row k hk) hb, h.dis, h.four⟩
theorem LvS.kept (h : LvS B b n s g t u W) {T : Sq.Blocks} (hk : Sq.Kept T W W2) (h1 : T b) (h2 : ∀ k, k < 4 → ∀ r, (u k).ownBlock = some r → T r) : LvS B b n s g t u W2 :=
  ⟨h.box.kept hk h1, fun k hk4 => Sq.row_kept (h.row k hk4) hk (h2 k hk4), h.dis, h.four⟩
theorem LvS.lev (h : LvS B b n s g t u W) {k : Nat} (hk : k < 4) : W.cell? ⟨b, 3 + k, none⟩ = some (u k) := by
  have : k = 0 ∨ k = 1 ∨ k = 2 ∨ k = 3 := by omega
  rw [h.box.cell]
  rcases this with rfl | rfl | rfl | rfl <;> rfl
/-- it is read as a Live -/
theorem LvS.live (h : LvS B b n s g t u W) (hl : ∀ r ∈ t, r.length ≤ 1048576) : LvIn W.heap.size W ⟨n, s, g, t⟩ (u 0) (u 1) (u 2) (u 3) :=
  ⟨h.four, tbs_of_own (h.row 0 (by omega)), tbs_of_own (h.row 1 (by omega)), tbs_of_own (h.row 2 (by omega)), tbs_of_own (h.row 3 (by omega)), hl⟩
/-- a level's value, changed -/
def upd (u : Nat → Value) (k : Nat) (v : Value) : Nat → Value := fun j => if k = j then v else u j
/-- another row is put into a level: a row of its own, whatever block it lies in but those of the others -/
theorem LvS.put (h : LvS B b n s g t u W) {k : Nat} (hk : k < 4) {M : List Tbl} {v : Value} (hW : Sq.Kept (fun r => (u k).ownBlock ≠ some r) W W2) (hrow : W2.ownsRow B 38 6 v M.length (tcs M)) (hnew : ∀ r, v.ownBlock = some r → (u k).ownBlock = some r ∨ W.heap.size ≤ r) :
    LvS B b n s g (t.set k M) (upd u k v) (W2.setCell ⟨b, 3 + k, none⟩ v) := by
  have hbk : (u k).ownBlock ≠ some b := h.box.not_row (by decide) (h.row k hk)
  have hbox : Ob.Obj W2 b 27 [.int .u64 n, .int .u64 s, .int .u64 g, u 0, u 1, u 2, u 3] := h.box.kept hW hbk
  refine ⟨?_, fun j hj => ?_, fun i j hi hj hij r hr => ?_, by simp [h.four]⟩
  · have := hbox.set (3 + k) v
    have h4 : k = 0 ∨ k = 1 ∨ k = 2 ∨ k = 3 := by omega
    rcases h4 with rfl | rfl | rfl | rfl <;> exact this
  · rw [getD_set h.four hk]
    unfold upd
    by_cases e : k = j
    · rw [if_pos e, if_pos e]
      exact Ob.row_other hrow (p := ⟨b, 3 + k, none⟩) (hbox.not_row (by decide) hrow) _
    · rw [if_neg e, if_neg e]
      have h1 := Sq.row_kept (h.row j hj) hW (fun r hr e2 => h.dis k j hk hj e r e2 hr)
      exact Ob.row_other h1 (p := ⟨b, 3 + k, none⟩) (hbox.not_row (by decide) h1) _
  · unfold upd at hr ⊢
    have key : ∀ j, j < 4 → k ≠ j → ∀ r, v.ownBlock = some r → (u j).ownBlock ≠ some r := fun j hj e r hr h2 => by
      rcases hnew r hr with h3 | h3
      · exact h.dis k j hk hj e r h3 h2
      · have := (Ob.row_lt (h.row j hj) h2).2
        omega
    by_cases ei : k = i
    · rw [if_pos ei] at hr
      by_cases ej : k = j
      · exact absurd (ei.symm.trans ej) hij
      · rw [if_neg ej]
        exact key j hj ej r hr
    · rw [if_neg ei] at hr
      by_cases ej : k = j
      · rw [if_pos ej]
        exact fun h2 => key i hi ei r h2 hr
      · rw [if_neg ej]
        exact h.dis i j hi hj hij r hr
/-- of the call's own: four rows that are not there -/
theorem LvS.new (B : Nat) (W : World) (n s g : Int) : LvS B W.heap.size n s g [[], [], [], []] (fun _ => .slice none 0 0) (W.alloc (.cells #[.int .u64 n, .int .u64 s, .int .u64 g, .slice none 0 0, .slice none 0 0, .slice none 0 0, .slice none 0 0] 27)) := by
  refine ⟨Ob.Obj.new W _ [.int .u64 n, .int .u64 s, .int .u64 g, .slice none 0 0, .slice none 0 0, .slice none 0 0, .slice none 0 0], fun k hk => ?_, fun i j _ _ _ r hr => by simp [Value.ownBlock] at hr, rfl⟩
  have e : ([[], [], [], []] : List (List Tbl)).getD k [] = [] := by
    have : k = 0 ∨ k = 1 ∨ k = 2 ∨ k = 3 := by omega
    rcases this with rfl | rfl | rfl | rfl <;> rfl
  rw [e]
  exact World.ownsRow_nil _ _ _ _
end Mf
end Go.Proofs.Ytpldfdlnhgmnaaa

/-
  Plain mathematics of the document's Apply as it goes: its drops one by one, its levels one by one, its adds one by one. No program is named here.
-/
namespace Go.Proofs.Ytpldfdlnhgmnaaa
set_option linter.unusedVariables false
set_option linter.unusedSimpArgs false
namespace Mf
open Op (bytesLess)
def lv0 : Lv := ⟨0, 0, 0, [[], [], [], []]⟩
/-- what the chapter's Apply answers: how it went, and the Live -/
def appC (l : Lv) (e : Ed) : Int := if mayE e = true then (match applyP l e with | none => 3 | some _ => 0) else 1
def appL (l : Lv) (e : Ed) : Lv := if mayE e = true then (applyP l e).getD lv0 else lv0
theorem app_arg {l : Lv} {e : Ed} (h : mayE e = false) : appC l e = 1 ∧ appL l e = lv0 := by simp [appC, appL, h]
theorem app_form {l : Lv} {e : Ed} (h : mayE e = true) (hn : applyP l e = none) : appC l e = 3 ∧ appL l e = lv0 := by simp [appC, appL, h, hn]
theorem app_ok {l x : Lv} {e : Ed} (h : mayE e = true) (hn : applyP l e = some x) : appC l e = 0 ∧ appL l e = x := by simp [appC, appL, h, hn]
/-- one drop -/
def okD (had d : List Int) (i : Nat) : Bool := had.contains (d.getD i 0) && !(d.take i).contains (d.getD i 0)
theorem drops_all {had d : List Int} (h : ∀ i, i < d.length → okD had d i = true) : dropsOk had d = true := by
  unfold dropsOk
  rw [List.all_eq_true]
  exact fun i hi => h i (List.mem_range.1 hi)
theorem drops_bad {had d : List Int} {i : Nat} (hi : i < d.length) (h : okD had d i = false) : dropsOk had d = false := by
  cases hd : dropsOk had d with
  | false => rfl
  | true =>
    unfold dropsOk at hd
    rw [List.all_eq_true] at hd
    have := hd i (List.mem_range.2 hi)
    unfold okD at h
    rw [h] at this
    cases this
/-- what has gone into the new Live before table i of level k -/
def stG (d : List Int) (t : List (List Tbl)) (k i : Nat) : List (List Tbl) :=
  (List.range 4).map fun j => if j < k then (t.getD j []).filter (fun x => !d.contains x.num) else if j = k then ((t.getD k []).take i).filter (fun x => !d.contains x.num) else []
theorem stG_four (d : List Int) (t : List (List Tbl)) (k i : Nat) : (stG d t k i).length = 4 := by simp [stG]
theorem stG_zero (d : List Int) (t : List (List Tbl)) : stG d t 0 0 = [[], [], [], []] := by
  unfold stG
  rw [show List.range 4 = [0, 1, 2, 3] from rfl]
  simp
theorem stG_getD (d : List Int) (t : List (List Tbl)) (k i : Nat) {j : Nat} (hj : j < 4) : (stG d t k i).getD j [] = if j < k then (t.getD j []).filter (fun x => !d.contains x.num) else if j = k then ((t.getD k []).take i).filter (fun x => !d.contains x.num) else [] := by
  unfold stG
  rw [List.getD_eq_getElem?_getD, List.getElem?_map, List.getElem?_range hj]
  rfl
theorem stG_lev (d : List Int) (t : List (List Tbl)) (i : Nat) {k : Nat} (hk : k < 4) : (stG d t k i).getD k [] = ((t.getD k []).take i).filter (fun x => !d.contains x.num) := by
  rw [stG_getD d t k i hk, if_neg (Nat.lt_irrefl _), if_pos rfl]
theorem ext4 {s t : List (List Tbl)} (hs : s.length = 4) (ht : t.length = 4) (h : ∀ k, k < 4 → s.getD k [] = t.getD k []) : s = t := by
  apply List.ext_getElem (hs.trans ht.symm)
  intro k h1 h2
  have := h k (by omega)
  rw [List.getD_eq_getElem?_getD, List.getD_eq_getElem?_getD, List.getElem?_eq_getElem h1, List.getElem?_eq_getElem h2] at this
  exact this
theorem stG_next (d : List Int) (t : List (List Tbl)) (k : Nat) : stG d t k (t.getD k []).length = stG d t (k + 1) 0 := by
  refine ext4 (stG_four ..) (stG_four ..) fun j hj => ?_
  rw [stG_getD _ _ _ _ hj, stG_getD _ _ _ _ hj]
  by_cases h1 : j < k
  · rw [if_pos h1, if_pos (by omega)]
  · rw [if_neg h1]
    by_cases h2 : j = k
    · subst h2
      rw [if_pos rfl, if_pos (by omega), List.take_length]
    · rw [if_neg h2, if_neg (by omega)]
      split <;> simp
theorem stG_end (d : List Int) (t : List (List Tbl)) : stG d t 4 0 = stay d t := by
  refine ext4 (stG_four ..) (stay_four d t) fun j hj => ?_
  rw [stG_getD _ _ _ _ hj, if_pos hj, stay_lev d t hj]
theorem stG_skip {d : List Int} {t : List (List Tbl)} {k i : Nat} (hi : i < (t.getD k []).length) (hc : d.contains ((t.getD k [])[i].num) = true) : stG d t k (i + 1) = stG d t k i := by
  refine ext4 (stG_four ..) (stG_four ..) fun j hj => ?_
  rw [stG_getD _ _ _ _ hj, stG_getD _ _ _ _ hj]
  by_cases h1 : j < k
  · rw [if_pos h1, if_pos h1]
  · rw [if_neg h1, if_neg h1]
    by_cases h2 : j = k
    · rw [if_pos h2, if_pos h2, List.take_succ_eq_append_getElem hi, List.filter_append]
      simp at hc
      simp [hc]
    · rw [if_neg h2, if_neg h2]
theorem stG_add {d : List Int} {t : List (List Tbl)} {k i : Nat} (hk : k < 4) (hi : i < (t.getD k []).length) (hc : d.contains ((t.getD k [])[i].num) = false) : stG d t k (i + 1) = (stG d t k i).set k ((stG d t k i).getD k [] ++ [(t.getD k [])[i]]) := by
  refine ext4 (stG_four ..) (by simp [stG_four]) fun j hj => ?_
  rw [getD_set (stG_four ..) hk, stG_getD _ _ _ _ hj]
  by_cases h1 : j < k
  · rw [if_pos h1, if_neg (by omega), stG_getD _ _ _ _ hj, if_pos h1]
  · rw [if_neg h1]
    by_cases h2 : j = k
    · rw [if_pos h2, if_pos h2.symm, stG_lev _ _ _ hk, List.take_succ_eq_append_getElem hi, List.filter_append]
      simp at hc
      simp [hc]
    · rw [if_neg h2, if_neg (fun h => h2 h.symm), stG_getD _ _ _ _ hj, if_neg h1, if_neg h2]
theorem getD_le {t : List (List Tbl)} {M : Nat} (h : ∀ r ∈ t, r.length ≤ M) (k : Nat) : (t.getD k []).length ≤ M := by
  by_cases hk : k < t.length
  · rw [List.getD_eq_getElem?_getD, List.getElem?_eq_getElem hk, Option.getD_some]
    exact h _ (List.getElem_mem hk)
  · rw [List.getD_eq_getElem?_getD, List.getElem?_eq_none (by omega), Option.getD_none]; simp
theorem le_getD {t : List (List Tbl)} {M : Nat} (h : ∀ k, k < t.length → (t.getD k []).length ≤ M) : ∀ r ∈ t, r.length ≤ M := by
  intro r hr
  obtain ⟨k, hk, rfl⟩ := List.getElem_of_mem hr
  have := h k hk
  rw [List.getD_eq_getElem?_getD, List.getElem?_eq_getElem hk, Option.getD_some] at this
  exact this
theorem stG_len {d : List Int} {t : List (List Tbl)} {M : Nat} (h : ∀ r ∈ t, r.length ≤ M) (k i : Nat) : ∀ r ∈ stG d t k i, r.length ≤ M := by
  refine le_getD fun j hj => ?_
  rw [stG_four] at hj
  rw [stG_getD _ _ _ _ hj]
  split
  · exact Nat.le_trans (List.length_filter_le _ _) (getD_le h j)
  · split
    · refine Nat.le_trans (List.length_filter_le _ _) (Nat.le_trans ?_ (getD_le h k))
      rw [List.length_take]
      omega
    · simp
/-- one add -/
theorem addAll_cons {next : Int} {x : Tbl} {r : List Tbl} {t : List (List Tbl)} : addAll next (x :: r) t = (addOne next t x).bind (addAll next r) := rfl
theorem addOne_num {next : Int} {t : List (List Tbl)} {x : Tbl} (h : x.num ∈ numsT t 4 ∨ next ≤ x.num) : addOne next t x = none := by
  unfold addOne
  rw [if_pos]
  rcases h with h | h
  · simp [h]
  · simp [h]
theorem addOne_over {next : Int} {t : List (List Tbl)} {x : Tbl} (h0 : 0 < x.lev) {k : Nat} (hk : k < (t.getD x.lev.toNat []).length) (ho : over (t.getD x.lev.toNat [])[k] x = true) : addOne next t x = none := by
  unfold addOne
  split
  · rfl
  · rw [if_pos]
    rw [decide_eq_true h0, Bool.true_and, List.any_eq_true]
    exact ⟨_, List.getElem_mem hk, ho⟩
theorem addOne_some {next : Int} {t : List (List Tbl)} {x : Tbl} (h1 : x.num ∉ numsT t 4) (h2 : x.num < next) (h3 : x.lev = 0 ∨ ∀ y ∈ t.getD x.lev.toNat [], over y x = false) : addOne next t x = some (t.set x.lev.toNat (putP (t.getD x.lev.toNat []) x)) := by
  unfold addOne
  rw [if_neg (by simp [h1]; omega), if_neg]
  rw [Bool.and_eq_true]
  rintro ⟨h4, h5⟩
  rcases h3 with h3 | h3
  · have := of_decide_eq_true h4
    omega
  · obtain ⟨y, hy, ho⟩ := List.any_eq_true.1 h5
    rw [h3 y hy] at ho
    cases ho
theorem set_len {t : List (List Tbl)} {k M : Nat} {v : List Tbl} (h : ∀ r ∈ t, r.length ≤ M) (hv : v.length ≤ M) : ∀ r ∈ t.set k v, r.length ≤ M := by
  intro r hr
  rcases List.mem_or_eq_of_mem_set hr with h1 | h1
  · exact h r h1
  · rw [h1]; exact hv
/-- what mayE tells of each table that is added -/
theorem may_add {e : Ed} (h : mayE e = true) : ∀ x ∈ e.add, mayT x = true := by
  unfold mayE at h
  simp only [Bool.and_eq_true] at h
  exact List.all_eq_true.1 h.1.2
theorem may_lev {x : Tbl} (h : mayT x = true) : 0 ≤ x.lev ∧ x.lev < 4 := by
  unfold mayT at h
  simp only [Bool.and_eq_true, decide_eq_true_eq] at h
  exact ⟨h.1.1.1.1.1.1.1.1.1.1.2, h.1.1.1.1.1.1.1.1.1.2⟩
end Mf
end Go.Proofs.Ytpldfdlnhgmnaaa

/-
  Configurations of a store (api.StoreConfig): what they are as values; which the program (chapter 11) and the document let be.
-/
namespace Go.Proofs.Ytpldfdlnhgmnaaa
open Go.RowKit
set_option linter.unusedVariables false
set_option linter.unusedSimpArgs false
namespace Cp
structure Cfg where
  mem : Int
  block : Int
  bits : Int
  table : Int
  files : Int
  base : Int
  edits : Int
  seed : Int
def wt (n lo hi : Int) : Bool := decide (lo ≤ n) && decide (n ≤ hi)
def mayC (c : Cfg) : Bool := wt c.mem 64 65536 && wt c.block 64 4096 && wt c.bits 0 20 && wt c.table 256 65536 && wt c.files 1 8 && wt c.base 256 1048576 && wt c.edits 1 1000
def cfgV (c : Cfg) : Value := .agg #[.int .i64 c.mem, .int .i64 c.block, .int .i64 c.bits, .int .i64 c.table, .int .i64 c.files, .int .i64 c.base, .int .i64 c.edits, .int .u64 c.seed]

set_option maxRecDepth 100000 in
theorem within_any (n lo hi : Int) (w : World) :
    Calls Try.prog 75 #[.int .i64 n, .int .i64 lo, .int .i64 hi] w fun e w' => e = .returned (.bool (wt n lo hi)) ∧ w = w' := by
  unfold wt
  go_enter Try.func75, Try.ntmps75
  go_wp2_with fail
  all_goals go_ret
  all_goals refine ⟨congrArg (fun b => Ending.returned (.bool b)) ?_, rfl⟩
  all_goals (first | (simp_all; done) | (simp_all; omega))

set_option maxRecDepth 100000 in
theorem goesDown_any (n : Int) (w : World) :
    Calls Try.prog 46 #[.int .i64 n] w fun e w' => e = .returned (.bool (wt n 0 2)) ∧ w = w' := by
  unfold wt
  go_enter Try.func46, Try.ntmps46
  go_wp2_with fail
  all_goals go_ret
  all_goals refine ⟨congrArg (fun b => Ending.returned (.bool b)) ?_, rfl⟩
  all_goals simp_all
  all_goals omega

set_option maxRecDepth 100000 in
set_option maxHeartbeats 4000000 in
theorem mayBe_any (c : Cfg) (w : World) :
    Calls Try.prog 45 #[cfgV c] w fun e w' => e = .returned (.bool (mayC c)) ∧ Below w.heap.size w w' := by
  obtain ⟨x0, x1, x2, x3, x4, x5, x6, x7⟩ := c
  unfold cfgV mayC
  simp only
  have H0 := Lib.hid (fun W => within_any x0 64 65536 W)
  have H1 := Lib.hid (fun W => within_any x1 64 4096 W)
  have H2 := Lib.hid (fun W => within_any x2 0 20 W)
  have H3 := Lib.hid (fun W => within_any x3 256 65536 W)
  have H4 := Lib.hid (fun W => within_any x4 1 8 W)
  have H5 := Lib.hid (fun W => within_any x5 256 1048576 W)
  have H6 := Lib.hid (fun W => within_any x6 1 1000 W)
  generalize wt x0 64 65536 = b0 at *
  generalize wt x1 64 4096 = b1 at *
  generalize wt x2 0 20 = b2 at *
  generalize wt x3 256 65536 = b3 at *
  generalize wt x4 1 8 = b4 at *
  generalize wt x5 256 1048576 = b5 at *
  generalize wt x6 1 1000 = b6 at *
  go_enter Try.func45, Try.ntmps45
  go_wp2_with (go_at_call 75; (first | (with_reducible refine (H0.out _).mono ?_) | (with_reducible refine (H1.out _).mono ?_) | (with_reducible refine (H2.out _).mono ?_) | (with_reducible refine (H3.out _).mono ?_) | (with_reducible refine (H4.out _).mono ?_) | (with_reducible refine (H5.out _).mono ?_) | (with_reducible refine (H6.out _).mono ?_)); rintro e w2 ⟨rfl, rfl⟩)
  all_goals go_ret
  all_goals refine ⟨congrArg (fun b => Ending.returned (.bool b)) ?_, (Below.refl _ _).alloc (Nat.le_refl _) _⟩
  all_goals (simp_all; done)
end Cp
end Go.Proofs.Ytpldfdlnhgmnaaa

/-
  Plain mathematics of chapter 11: how much is in a level, which compaction is due, what it takes. No program is named here.
-/
namespace Go.Proofs.Ytpldfdlnhgmnaaa
set_option linter.unusedVariables false
set_option linter.unusedSimpArgs false
namespace Cp
open Op (bytesLess)
open Mf (Tbl)
structure Jb where
  lev : Int
  src : List Tbl
  dst : List Tbl
  bot : Bool
def sizeP (L : List Tbl) : Int := (L.map (·.siz)).sum
theorem sizeP_snoc (L : List Tbl) (x : Tbl) : sizeP (L ++ [x]) = sizeP L + x.siz := by simp [sizeP]
def Siz (L : List Tbl) : Prop := ∀ x ∈ L, 0 ≤ x.siz ∧ x.siz ≤ 1073741824
theorem sizeP_take {L : List Tbl} (h : Siz L) : ∀ q, q ≤ L.length → 0 ≤ sizeP (L.take q) ∧ sizeP (L.take q) ≤ q * 1073741824
  | 0, _ => by simp [sizeP]
  | q + 1, hq => by
    have ih := sizeP_take h q (by omega)
    rw [List.take_succ_eq_append_getElem (by omega), sizeP_snoc]
    have := h _ (List.getElem_mem (show q < L.length by omega))
    omega
def scoreP (c : Cfg) (t : List (List Tbl)) (k : Int) : Int × Int :=
  if mayC c && wt k 0 2 then
    if k = 0 then ((t.getD 0 []).length, c.files - 1)
    else if k = 1 then (sizeP (t.getD 1 []), c.base)
    else (sizeP (t.getD 2 []), 4 * c.base)
  else (0, 0)
/-- which table of a further level goes first -/
def idxP (L : List Tbl) (a : List UInt8) : Nat := if (L.takeWhile fun x => !bytesLess a x.hi).length = L.length then 0 else (L.takeWhile fun x => !bytesLess a x.hi).length
def minB (a b : List UInt8) : List UInt8 := if bytesLess b a then b else a
def maxB (a b : List UInt8) : List UInt8 := if bytesLess a b then b else a
/-- from the least key to the greatest -/
def spanP : List Tbl → List UInt8 × List UInt8
  | [] => ([], [])
  | x :: r => r.foldl (fun p y => (minB p.1 y.lo, maxB p.2 y.hi)) (x.lo, x.hi)
theorem spanP_snoc {L : List Tbl} (x : Tbl) (h : 0 < L.length) : spanP (L ++ [x]) = (minB (spanP L).1 x.lo, maxB (spanP L).2 x.hi) := by
  cases L with
  | nil => simp at h
  | cons y r => simp [spanP]
def overP (lo hi : List UInt8) (L : List Tbl) : List Tbl := L.filter fun x => !bytesLess x.hi lo && !bytesLess hi x.lo
/-- the tables that a level gives -/
def srcP (t : List (List Tbl)) (k : Nat) (a : List UInt8) : List Tbl := if k = 0 then t.getD 0 [] else ((t.getD k []).drop (idxP (t.getD k []) a)).take 1
def dstP (t : List (List Tbl)) (k : Nat) (a : List UInt8) : List Tbl := overP (spanP (srcP t k a)).1 (spanP (srcP t k a)).2 (t.getD (k + 1) [])
def botP (t : List (List Tbl)) (k : Nat) (a : List UInt8) : Bool := (overP (spanP (srcP t k a ++ dstP t k a)).1 (spanP (srcP t k a ++ dstP t k a)).2 (t.drop (k + 2)).flatten).isEmpty
def jobP (t : List (List Tbl)) (k : Nat) (a : List UInt8) : Jb := ⟨k, srcP t k a, dstP t k a, botP t k a⟩
def isDue (c : Cfg) (t : List (List Tbl)) (k : Nat) : Bool := decide ((scoreP c t k).2 < (scoreP c t k).1)
/-- the least level that is due; 3: none is -/
def dueP (c : Cfg) (t : List (List Tbl)) : Nat := if isDue c t 0 then 0 else if isDue c t 1 then 1 else if isDue c t 2 then 2 else 3
def pickP (c : Cfg) (t : List (List Tbl)) (a : Nat → List UInt8) : Jb × Bool := if dueP c t = 3 then (⟨0, [], [], false⟩, false) else (jobP t (dueP c t) (a (dueP c t)), true)
theorem due_at {c : Cfg} {t : List (List Tbl)} {k : Nat} (hk : k < 3) (hn : ∀ j, j < k → isDue c t j = false) (h : isDue c t k = true) : dueP c t = k := by
  have h3 : k = 0 ∨ k = 1 ∨ k = 2 := by omega
  unfold dueP
  rcases h3 with rfl | rfl | rfl
  · rw [if_pos h]
  · rw [hn 0 (by omega), if_neg (by simp), if_pos h]
  · rw [hn 0 (by omega), hn 1 (by omega), if_neg (by simp), if_neg (by simp), if_pos h]
theorem due_none {c : Cfg} {t : List (List Tbl)} (hn : ∀ j, j < 3 → isDue c t j = false) : dueP c t = 3 := by
  unfold dueP
  rw [hn 0 (by omega), hn 1 (by omega), hn 2 (by omega)]
  rfl
theorem mayC_num {c : Cfg} (h : mayC c = true) : 1 ≤ c.files ∧ c.files ≤ 8 ∧ 256 ≤ c.base ∧ c.base ≤ 1048576 := by
  unfold mayC wt at h
  simp only [Bool.and_eq_true, decide_eq_true_eq] at h
  exact ⟨h.1.1.2.1, h.1.1.2.2, h.1.2.1, h.1.2.2⟩
/-- a level that is due has a table -/
theorem due_pos {c : Cfg} {t : List (List Tbl)} {k : Nat} (hk : k < 3) (h : isDue c t k = true) : 0 < (t.getD k []).length := by
  unfold isDue at h
  have h := of_decide_eq_true h
  unfold scoreP at h
  split at h
  · rename_i hm
    rw [Bool.and_eq_true] at hm
    obtain ⟨h1, _, h2, _⟩ := mayC_num hm.1
    have h3 : k = 0 ∨ k = 1 ∨ k = 2 := by omega
    rcases h3 with rfl | rfl | rfl
    · rw [if_pos (by omega)] at h
      simp only at h
      omega
    · rw [if_neg (by omega), if_pos (by omega)] at h
      simp only at h
      apply Nat.pos_of_ne_zero
      intro e
      rw [List.eq_nil_of_length_eq_zero e] at h
      simp [sizeP] at h
      omega
    · rw [if_neg (by omega), if_neg (by omega)] at h
      simp only at h
      apply Nat.pos_of_ne_zero
      intro e
      rw [List.eq_nil_of_length_eq_zero e] at h
      simp [sizeP] at h
      omega
  · simp at h
theorem idxP_lt {L : List Tbl} (a : List UInt8) (h : 0 < L.length) : idxP L a < L.length := by
  unfold idxP
  split
  · exact h
  · rename_i hn
    have : (L.takeWhile fun x => !bytesLess a x.hi).length ≤ L.length := (List.takeWhile_prefix _).length_le
    omega
theorem srcP_pos {t : List (List Tbl)} {k : Nat} (a : List UInt8) (h : 0 < (t.getD k []).length) : 0 < (srcP t k a).length := by
  unfold srcP
  split
  · rename_i e; subst e; exact h
  · have := idxP_lt a h
    rw [List.length_take, List.length_drop]
    omega
theorem srcP_len {t : List (List Tbl)} {M : Nat} (hM : 1 ≤ M) (h : ∀ r ∈ t, r.length ≤ M) (k : Nat) (a : List UInt8) : (srcP t k a).length ≤ M := by
  unfold srcP
  split
  · exact Mf.getD_le h 0
  · rw [List.length_take]
    omega
theorem overP_len (lo hi : List UInt8) (L : List Tbl) : (overP lo hi L).length ≤ L.length := List.length_filter_le _ _
theorem dstP_len {t : List (List Tbl)} {M : Nat} (h : ∀ r ∈ t, r.length ≤ M) (k : Nat) (a : List UInt8) : (dstP t k a).length ≤ M := Nat.le_trans (overP_len _ _ _) (Mf.getD_le h (k + 1))
/-- the first place whose key is beyond another one -/
theorem tw_eq {p : Tbl → Bool} : ∀ (L : List Tbl) (q : Nat), q ≤ L.length → (∀ y ∈ L.take q, p y = true) → (∀ h : q < L.length, p L[q] = false) → (L.takeWhile p).length = q
  | [], q, hq, _, _ => by simp at hq; subst hq; rfl
  | y :: r, 0, _, _, hs => by
    have h0 := hs (by simp)
    simp only [List.getElem_cons_zero] at h0
    rw [List.takeWhile_cons, h0]
    rfl
  | y :: r, q + 1, hq, ha, hs => by
    have h0 := ha y (by simp)
    rw [List.takeWhile_cons, h0]
    simp only [if_true, List.length_cons]
    rw [tw_eq r q (by simpa using hq) (fun z hz => ha z (by simp [hz])) (fun h => by have h2 := hs (by simp; omega); rw [List.getElem_cons_succ] at h2; exact h2)]
end Cp
end Go.Proofs.Ytpldfdlnhgmnaaa

/-
  The document's answers of chapter 11: bounds, overlapping, All.
-/
namespace Go.Proofs.Ytpldfdlnhgmnaaa
open Go.RowKit
set_option linter.unusedSimpArgs false
set_option linter.unusedVariables false
namespace Cp
open Op (bytesLess)
open Mf (Tbl Lv lvV LvIn Tbs TAt TblIn tcs tblV tC tcs_snoc cell_six_new)
theorem overP_snoc_in {lo hi : List UInt8} {L : List Tbl} {x : Tbl} (h : (!bytesLess x.hi lo && !bytesLess hi x.lo) = true) : overP lo hi (L ++ [x]) = overP lo hi L ++ [x] := by
  unfold overP
  rw [List.filter_append]
  simp only [List.filter_cons, h, if_true, List.filter_nil]
theorem overP_snoc_out {lo hi : List UInt8} {L : List Tbl} {x : Tbl} (h : (!bytesLess x.hi lo && !bytesLess hi x.lo) = false) : overP lo hi (L ++ [x]) = overP lo hi L := by
  unfold overP
  rw [List.filter_append]
  simp only [List.filter_cons, h, List.filter_nil]
  simp

set_option maxRecDepth 100000 in
set_option maxHeartbeats 4000000 in
theorem overlappingR_any (v : Value) (L : List Tbl) (lo hi : List UInt8) (w : World) (hV : Tbs w.heap.size w v L) (hL : L.length ≤ 4194304) :
    Calls Try.prog 50 #[v, .string (Cd.bs lo), .string (Cd.bs hi)] w fun e w' => ∃ r, e = .returned r ∧ w'.ownsRow w.heap.size 38 6 r (overP lo hi L).length (tcs (overP lo hi L)) ∧ Below w.heap.size w w' := by
  obtain ⟨i0, hi0, hz0, hz1, hz2⟩ := info_parts info_Table10
  obtain ⟨a, cap, fb, fo, rfl, ha, hc⟩ := hV
  have HC := Lib.hid hc
  clear hc
  go_enter Try.func50, Try.ntmps50
  go_wp2_with fail
  go_loopw [8, 7] (fun i v wr => ∃ q : Nat, q ≤ L.length ∧ i = .int .i64 (q : Int) ∧ wr.ownsRow w.heap.size 38 6 v (overP lo hi (L.take q)).length (tcs (overP lo hi (L.take q))) ∧ Below w.heap.size w wr) (fun i _ _ => L.length - (intOf i).toNat)
  case atStart => exact ⟨0, Nat.zero_le _, rfl, World.ownsRow_nil _ _ _ _, Below.refl _ _⟩
  case round =>
    obtain ⟨q, hq, rfl, hrow, hB⟩ := hrel
    obtain ⟨wo, rfl⟩ : ∃ wo : World, wo = wr := ⟨_, rfl⟩
    by_cases hlt : q < L.length
    · obtain ⟨rfl, hfb⟩ := ha (by omega)
      obtain ⟨e0, e1, e2, e3, e4, e5⟩ := (HC.out q hlt).below hB hfb
      have hi3 : (0 : Int) ≤ (q : Int) ∧ (q : Int) < (L.length : Int) := by omega
      have HTK := Lib.hid (List.take_succ_eq_append_getElem hlt)
      have hln : (overP lo hi (L.take q)).length ≤ 4194304 := Nat.le_trans (overP_len _ _ _) (by rw [List.length_take]; omega)
      have hsz := hB.size
      generalize L[q] = x at *
      generalize hT : L.take q = T at *
      obtain ⟨xn, xl, xs, xc, xlo, xhi⟩ := x
      simp only at e0 e1 e2 e3 e4 e5
      have HOV := Lib.hid (fun W => show Calls Try.prog 26 #[.agg #[.int .u64 xn, .int .i64 xl, .int .i64 xs, .int .i64 xc, .string (Cd.bs xlo), .string (Cd.bs xhi)], .string (Cd.bs lo), .string (Cd.bs hi)] W fun e w' => e = .returned (.bool (!bytesLess xhi lo && !bytesLess hi xlo)) ∧ Below W.heap.size W w' from Mf.overlapR_any ⟨xn, xl, xs, xc, xlo, xhi⟩ lo hi W)
      cases hd : (!bytesLess xhi lo && !bytesLess hi xlo) with
      | false =>
        rw [hd] at HOV
        have HE := Lib.hid (show overP lo hi (L.take (q + 1)) = overP lo hi T by rw [HTK.out]; exact overP_snoc_out hd)
        clear hd hT
        go_wp2_with (go_at_call 26; (with_reducible refine (HOV.out _).mono ?_); rintro r w2 ⟨rfl, hb2⟩)
        go_roundw
        case rel => exact ⟨q + 1, by omega, by go_num, by rw [HE.out]; exact own_below hrow hb2, hB.trans (hb2.mono hB.size)⟩
        case measure => simp [intOf]; omega
      | true =>
        rw [hd] at HOV
        have HE := Lib.hid (show overP lo hi (L.take (q + 1)) = overP lo hi T ++ [⟨xn, xl, xs, xc, xlo, xhi⟩] by rw [HTK.out]; exact overP_snoc_in hd)
        clear hd hT
        obtain ⟨ao, capo, rfl, _⟩ := Sq.row_cases hrow
        generalize overP lo hi T = S at *
        have HRW := Lib.hid hrow
        have hn1 : S.length + 1 ≤ maxLen := by unfold maxLen; omega
        have hn2 : (S.length + 1) * 64 ≤ 140737488355328 := by omega
        have hfz : fb < wo.heap.size := Nat.lt_of_lt_of_le hfb hB.size
        clear hrow
        go_wp2_with (first
          | (go_at_call 26; (with_reducible refine (HOV.out _).mono ?_); rintro r w2 ⟨rfl, hb2⟩; have hB2 := hB.trans (hb2.mono hB.size); have g0 := (hb2.cell (p := ⟨fb, fo + q * 6, none⟩) hfz).trans e0; have g1 := (hb2.cell (p := ⟨fb, fo + q * 6 + 1, none⟩) hfz).trans e1; have g2 := (hb2.cell (p := ⟨fb, fo + q * 6 + 2, none⟩) hfz).trans e2; have g3 := (hb2.cell (p := ⟨fb, fo + q * 6 + 3, none⟩) hfz).trans e3; have g4 := (hb2.cell (p := ⟨fb, fo + q * 6 + 4, none⟩) hfz).trans e4; have g5 := (hb2.cell (p := ⟨fb, fo + q * 6 + 5, none⟩) hfz).trans e5; have HR2 := Lib.hid (own_below HRW.out hb2); have hs2 : w.heap.size ≤ w2.heap.size := hB2.size)
          | (at_builtin; refine wpList_append_own _ rfl _ _ 24 rfl w.heap.size 38 i0 (.agg #[.int .u64 0, .int .i64 0, .int .i64 0, .int .i64 0, .string ⟨#[]⟩, .string ⟨#[]⟩]) 6 64 Try.underlying24 hi0 hz0 hz1 hz2 rfl (by decide) _ _ _ rfl (HR2.out.alloc (.cells #[.int .u64 xn, .int .i64 xl, .int .i64 xs, .int .i64 xc, .string (Cd.bs xlo), .string (Cd.bs xhi)] 38)) ⟨w2.heap.size, 0, none⟩ 1 1 [.int .u64 xn, .int .i64 xl, .int .i64 xs, .int .i64 xc, .string (Cd.bs xlo), .string (Cd.bs xhi)] rfl rfl (cell_six_new w2 _ _ _ _ _ _ _) (by simp [Value.oneCell']) hn1 hn2 (by simp; omega) ?_; intro v4 w4 hown4 hgrow4 _; have HB4 := Lib.hid ((hB2.alloc hB2.size (.cells #[.int .u64 xn, .int .i64 xl, .int .i64 xs, .int .i64 xc, .string (Cd.bs xlo), .string (Cd.bs xhi)] 38)).grown hgrow4 (by simp; omega) (fun k hk => by have := (Ob.row_lt HR2.out hk).1; omega)); have HO4 := Lib.hid hown4; clear hown4 hgrow4))
        go_roundw
        case rel => exact ⟨q + 1, by omega, by go_num, by rw [HE.out, tcs_snoc, List.length_append, List.length_singleton]; exact HO4.out, HB4.out⟩
        case measure => simp [intOf]; omega
    · obtain rfl : q = L.length := by omega
      rw [List.take_length] at hrow
      have hi3 : ¬ (L.length : Int) < (L.length : Int) := by omega
      go_wp2_with fail
      go_ret
      exact ⟨_, rfl, hrow, hB⟩

set_option maxRecDepth 100000 in
set_option maxHeartbeats 4000000 in
theorem allR_any (u v : Value) (L M : List Tbl) (w : World) (hU : Tbs w.heap.size w u L) (hV : Tbs w.heap.size w v M) (hL : L.length ≤ 4194304) (hM : M.length ≤ 4194304) :
    Calls Try.prog 25 #[u, v] w fun e w' => ∃ r, e = .returned r ∧ w'.ownsRow w.heap.size 38 6 r (L ++ M).length (tcs (L ++ M)) ∧ Below w.heap.size w w' := by
  obtain ⟨i0, hi0, hz0, hz1, hz2⟩ := info_parts info_Table10
  obtain ⟨a, cap, fb, fo, rfl, ha, hc⟩ := hU
  obtain ⟨b, cap2, gb, go', rfl, hb, hd⟩ := hV
  have HC := Lib.hid hc
  have HD := Lib.hid hd
  clear hc hd
  obtain ⟨LM, hLM⟩ : ∃ LM, L ++ M = LM := ⟨_, rfl⟩
  have HLM := Lib.hid hLM
  rw [hLM]
  clear hLM
  go_enter Try.func25, Try.ntmps25
  go_wp2_with fail
  go_loopw [6, 5] (fun i v wr => ∃ q : Nat, q ≤ L.length ∧ i = .int .i64 (q : Int) ∧ wr.ownsRow w.heap.size 38 6 v (L.take q).length (tcs (L.take q)) ∧ Below w.heap.size w wr) (fun i _ _ => L.length - (intOf i).toNat)
  case atStart => exact ⟨0, Nat.zero_le _, rfl, World.ownsRow_nil _ _ _ _, Below.refl _ _⟩
  case round =>
    obtain ⟨q, hq, rfl, hrow, hB⟩ := hrel
    obtain ⟨wo, rfl⟩ : ∃ wo : World, wo = wr := ⟨_, rfl⟩
    by_cases hlt : q < L.length
    · obtain ⟨rfl, hfb⟩ := ha (by omega)
      obtain ⟨e0, e1, e2, e3, e4, e5⟩ := (HC.out q hlt).below hB hfb
      have hi3 : (0 : Int) ≤ (q : Int) ∧ (q : Int) < (L.length : Int) := by omega
      have HTK := Lib.hid (show L.take (q + 1) = (L.take q) ++ [L[q]] by rw [List.take_succ_eq_append_getElem hlt])
      have hln : (L.take q).length ≤ 8388608 := by rw [List.length_take]; omega
      have hsz := hB.size
      generalize L[q] = x at *
      obtain ⟨xn, xl, xs, xc, xlo, xhi⟩ := x
      simp only at e0 e1 e2 e3 e4 e5
      obtain ⟨ao, capo, rfl, _⟩ := Sq.row_cases hrow
      generalize L.take q = S at *
      have HRW := Lib.hid hrow
      have hn1 : S.length + 1 ≤ maxLen := by unfold maxLen; omega
      have hn2 : (S.length + 1) * 64 ≤ 140737488355328 := by omega
      have HB := Lib.hid hB
      clear hrow
      go_wp2_with (at_builtin; refine wpList_append_own _ rfl _ _ 24 rfl w.heap.size 38 i0 (.agg #[.int .u64 0, .int .i64 0, .int .i64 0, .int .i64 0, .string ⟨#[]⟩, .string ⟨#[]⟩]) 6 64 Try.underlying24 hi0 hz0 hz1 hz2 rfl (by decide) _ _ _ rfl (HRW.out.alloc (.cells #[.int .u64 xn, .int .i64 xl, .int .i64 xs, .int .i64 xc, .string (Cd.bs xlo), .string (Cd.bs xhi)] 38)) ⟨wo.heap.size, 0, none⟩ 1 1 [.int .u64 xn, .int .i64 xl, .int .i64 xs, .int .i64 xc, .string (Cd.bs xlo), .string (Cd.bs xhi)] rfl rfl (cell_six_new wo _ _ _ _ _ _ _) (by simp [Value.oneCell']) hn1 hn2 (by simp; omega) ?_; intro v4 w4 hown4 hgrow4 _; have HB4 := Lib.hid ((HB.out.alloc HB.out.size (.cells #[.int .u64 xn, .int .i64 xl, .int .i64 xs, .int .i64 xc, .string (Cd.bs xlo), .string (Cd.bs xhi)] 38)).grown hgrow4 (by simp; omega) (fun k hk => by have := (Ob.row_lt HRW.out hk).1; omega)); have HO4 := Lib.hid hown4; clear hown4 hgrow4)
      go_roundw
      case rel => exact ⟨q + 1, by omega, by go_num, by rw [HTK.out, tcs_snoc, List.length_append, List.length_singleton]; exact HO4.out, HB4.out⟩
      case measure => simp [intOf]; omega
    · obtain rfl : q = L.length := by omega
      rw [List.take_length] at hrow
      have hi3 : ¬ (L.length : Int) < (L.length : Int) := by omega
      clear ha HC
      go_wp2_with fail
      go_loopw [7, 5] (fun i v wr => ∃ q : Nat, q ≤ M.length ∧ i = .int .i64 (q : Int) ∧ wr.ownsRow w.heap.size 38 6 v (L ++ M.take q).length (tcs (L ++ M.take q)) ∧ Below w.heap.size w wr) (fun i _ _ => M.length - (intOf i).toNat)
      case atStart => exact ⟨0, Nat.zero_le _, rfl, by rw [List.take_zero, List.append_nil]; exact hrow, hB⟩
      case round =>
        obtain ⟨q, hq, rfl, hrow, hB⟩ := hrel
        obtain ⟨wo, rfl⟩ : ∃ wo : World, wo = wr := ⟨_, rfl⟩
        by_cases hlt : q < M.length
        · obtain ⟨rfl, hfb⟩ := hb (by omega)
          obtain ⟨e0, e1, e2, e3, e4, e5⟩ := (HD.out q hlt).below hB hfb
          have hi3 : (0 : Int) ≤ (q : Int) ∧ (q : Int) < (M.length : Int) := by omega
          have HTK := Lib.hid (show L ++ M.take (q + 1) = (L ++ M.take q) ++ [M[q]] by rw [List.take_succ_eq_append_getElem hlt]; rw [List.append_assoc])
          have hln : (L ++ M.take q).length ≤ 8388608 := by rw [List.length_append, List.length_take]; omega
          have hsz := hB.size
          generalize M[q] = x at *
          obtain ⟨xn, xl, xs, xc, xlo, xhi⟩ := x
          simp only at e0 e1 e2 e3 e4 e5
          obtain ⟨ao, capo, rfl, _⟩ := Sq.row_cases hrow
          generalize L ++ M.take q = S at *
          have HRW := Lib.hid hrow
          have hn1 : S.length + 1 ≤ maxLen := by unfold maxLen; omega
          have hn2 : (S.length + 1) * 64 ≤ 140737488355328 := by omega
          have HB := Lib.hid hB
          clear hrow
          go_wp2_with (at_builtin; refine wpList_append_own _ rfl _ _ 24 rfl w.heap.size 38 i0 (.agg #[.int .u64 0, .int .i64 0, .int .i64 0, .int .i64 0, .string ⟨#[]⟩, .string ⟨#[]⟩]) 6 64 Try.underlying24 hi0 hz0 hz1 hz2 rfl (by decide) _ _ _ rfl (HRW.out.alloc (.cells #[.int .u64 xn, .int .i64 xl, .int .i64 xs, .int .i64 xc, .string (Cd.bs xlo), .string (Cd.bs xhi)] 38)) ⟨wo.heap.size, 0, none⟩ 1 1 [.int .u64 xn, .int .i64 xl, .int .i64 xs, .int .i64 xc, .string (Cd.bs xlo), .string (Cd.bs xhi)] rfl rfl (cell_six_new wo _ _ _ _ _ _ _) (by simp [Value.oneCell']) hn1 hn2 (by simp; omega) ?_; intro v4 w4 hown4 hgrow4 _; have HB4 := Lib.hid ((HB.out.alloc HB.out.size (.cells #[.int .u64 xn, .int .i64 xl, .int .i64 xs, .int .i64 xc, .string (Cd.bs xlo), .string (Cd.bs xhi)] 38)).grown hgrow4 (by simp; omega) (fun k hk => by have := (Ob.row_lt HRW.out hk).1; omega)); have HO4 := Lib.hid hown4; clear hown4 hgrow4)
          go_roundw
          case rel => exact ⟨q + 1, by omega, by go_num, by rw [HTK.out, tcs_snoc, List.length_append, List.length_singleton]; exact HO4.out, HB4.out⟩
          case measure => simp [intOf]; omega
        · obtain rfl : q = M.length := by omega
          rw [List.take_length, HLM.out] at hrow
          have hi3 : ¬ (M.length : Int) < (M.length : Int) := by omega
          obtain ⟨ao, capo, rfl, _⟩ := Sq.row_cases hrow
          go_wp2_with fail
          go_ret
          exact ⟨.slice ao LM.length capo, rfl, hrow, hB⟩
end Cp
end Go.Proofs.Ytpldfdlnhgmnaaa

/-
  The document's answer of chapter 11: bounds.
-/
namespace Go.Proofs.Ytpldfdlnhgmnaaa
open Go.RowKit
set_option linter.unusedSimpArgs false
set_option linter.unusedVariables false
namespace Cp
open Op (bytesLess)
open Mf (Tbl Lv lvV LvIn Tbs TAt TblIn tcs tblV tC tcs_snoc cell_six_new)
theorem run_minB {P : Program} (w : World) (ts : Array TypeId) (t : TypeId) (a b : List UInt8) : (Builtin.min_ ts t #[.string (Cd.bs a), .string (Cd.bs b)]).run P w = .ok (.string (Cd.bs (minB a b))) w := by
  rw [Lib.run_min_strs]
  unfold Lib.minS minB
  have h := Mf.bl_le a b
  simp only [Proofs.bytesLess_eq] at h ⊢
  by_cases h1 : a < b
  · have h2 : ¬ b < a := by simpa [h1] using h
    simp [Cd.bs, h1, h2]
  · by_cases h2 : a = b
    · subst h2
      simp [Cd.bs]
    · have hb : (a == b) = false := by simpa using h2
      rw [decide_eq_false h1, hb] at h
      have h3 : b < a := by simpa using h
      simp [Cd.bs, h1, h2, h3]
theorem run_maxB {P : Program} (w : World) (ts : Array TypeId) (t : TypeId) (a b : List UInt8) : (Builtin.max_ ts t #[.string (Cd.bs a), .string (Cd.bs b)]).run P w = .ok (.string (Cd.bs (maxB a b))) w := by
  rw [Lib.run_max_strs]
  unfold Lib.maxS maxB
  simp only [Proofs.bytesLess_eq]
  by_cases h1 : a < b
  · simp [Cd.bs, h1]
  · simp [Cd.bs, h1]

set_option maxRecDepth 100000 in
set_option maxHeartbeats 4000000 in
theorem boundsR_any (v : Value) (L : List Tbl) (w : World) (hV : Tbs w.heap.size w v L) (hL : L.length ≤ 8388608) (h0 : 0 < L.length) :
    Calls Try.prog 49 #[v] w fun e w' => e = .returned (.tuple #[.string (Cd.bs (spanP L).1), .string (Cd.bs (spanP L).2)]) ∧ Below w.heap.size w w' := by
  obtain ⟨a, cap, fb, fo, rfl, ha, hc⟩ := hV
  obtain ⟨rfl, hfb⟩ := ha h0
  have HC := Lib.hid hc
  obtain ⟨e0, e1, e2, e3, e4, e5⟩ := hc 0 h0
  have hz0 : (0 : Int) ≤ 0 ∧ (0 : Int) < (L.length : Int) := by omega
  have HS1 := Lib.hid (show spanP (L.take 1) = (L[0].lo, L[0].hi) by rw [List.take_one, List.head?_eq_getElem?, List.getElem?_eq_getElem h0]; rfl)
  simp only [Nat.zero_mul, Nat.add_zero] at e0 e1 e2 e3 e4 e5
  generalize L[0] = x at *
  clear hc ha
  go_enter Try.func49, Try.ntmps49
  go_wp2_with fail
  clear e0 e1 e2 e3 e4 e5
  go_loopw [6, 4, 5] (fun i p s wr => ∃ q : Nat, 1 ≤ q ∧ q ≤ L.length ∧ i = .int .i64 (q : Int) ∧ p = .string (Cd.bs (spanP (L.take q)).1) ∧ s = .string (Cd.bs (spanP (L.take q)).2) ∧ w = wr) (fun i _ _ _ => L.length - (intOf i).toNat)
  case atStart => exact ⟨1, Nat.le_refl _, by omega, rfl, by rw [HS1.out], by rw [HS1.out], rfl⟩
  case round =>
    obtain ⟨q, hq1, hq, rfl, rfl, rfl, rfl⟩ := hrel
    by_cases hlt : q < L.length
    · obtain ⟨e0, e1, e2, e3, e4, e5⟩ := HC.out q hlt
      have hi3 : (0 : Int) ≤ (q : Int) ∧ (q : Int) < (L.length : Int) := by omega
      have HN := Lib.hid (show spanP (L.take (q + 1)) = (minB (spanP (L.take q)).1 L[q].lo, maxB (spanP (L.take q)).2 L[q].hi) by rw [List.take_succ_eq_append_getElem hlt, spanP_snoc _ (by rw [List.length_take]; omega)])
      generalize spanP (L.take q) = P at *
      obtain ⟨A, B⟩ := P
      generalize L[q] = y at *
      obtain ⟨yn, yl, ys, yc, ylo, yhi⟩ := y
      simp only at e4 e5 HN ⊢
      have hmn := fun W ts t => run_minB (P := Try.prog) W ts t A ylo
      have hmx := fun W ts t => run_maxB (P := Try.prog) W ts t B yhi
      go_wp2_with fail
      go_roundw
      case rel => exact ⟨q + 1, by omega, by omega, by go_num, by rw [HN.out], by rw [HN.out], by first | rfl | trivial⟩
      case measure => simp [intOf]; omega
    · obtain rfl : q = L.length := by omega
      rw [List.take_length]
      have hi3 : ¬ (L.length : Int) < (L.length : Int) := by omega
      go_wp2_with fail
      go_ret2
      exact ⟨rfl, Below.refl _ _⟩
end Cp
end Go.Proofs.Ytpldfdlnhgmnaaa

/-
  compact: span.touched, spanOf.
-/
namespace Go.Proofs.Ytpldfdlnhgmnaaa
open Go.RowKit
set_option linter.unusedSimpArgs false
set_option linter.unusedVariables false
namespace Cp
open Op (bytesLess)
open Mf (Tbl Lv lvV LvIn Tbs TAt TblIn tcs tblV tC tcs_snoc cell_six_new)

set_option maxRecDepth 100000 in
set_option maxHeartbeats 4000000 in
theorem touched_any (v : Value) (L : List Tbl) (lo hi : List UInt8) (w : World) (hV : Tbs w.heap.size w v L) (hL : L.length ≤ 4194304) :
    Calls Try.prog 78 #[.agg #[.string (Cd.bs lo), .string (Cd.bs hi)], v] w fun e w' => ∃ r, e = .returned r ∧ w'.ownsRow w.heap.size 38 6 r (overP lo hi L).length (tcs (overP lo hi L)) ∧ Below w.heap.size w w' := by
  obtain ⟨i0, hi0, hz0, hz1, hz2⟩ := info_parts info_Table10
  obtain ⟨a, cap, fb, fo, rfl, ha, hc⟩ := hV
  have HC := Lib.hid hc
  obtain ⟨OV, hOV⟩ : ∃ OV, overP lo hi L = OV := ⟨_, rfl⟩
  have HOVR := Lib.hid hOV
  rw [hOV]
  clear hc hOV
  obtain ⟨wA, hA⟩ : ∃ wA, w.alloc (.cells #[.string (Cd.bs lo), .string (Cd.bs hi)] 130) = wA := ⟨_, rfl⟩
  have bA : Below w.heap.size w wA := by rw [← hA]; exact (Below.refl _ _).alloc (Nat.le_refl _) _
  have xA : Ob.Obj wA w.heap.size 130 [.string (Cd.bs lo), .string (Cd.bs hi)] := by rw [← hA]; exact Ob.Obj.new w _ [.string (Cd.bs lo), .string (Cd.bs hi)]
  go_enter Try.func78, Try.ntmps78
  go_wp2_with fail
  clear hA
  go_loopw [10, 5] (fun i v wr => ∃ q : Nat, q ≤ L.length ∧ i = .int .i64 (q : Int) ∧ wr.ownsRow (w.heap.size + 1) 38 6 v (overP lo hi (L.take q)).length (tcs (overP lo hi (L.take q))) ∧ Ob.Obj wr w.heap.size 130 [.string (Cd.bs lo), .string (Cd.bs hi)] ∧ Below w.heap.size w wr) (fun i _ _ => L.length - (intOf i).toNat)
  case atStart => exact ⟨0, Nat.zero_le _, rfl, World.ownsRow_nil _ _ _ _, xA, bA⟩
  case round =>
    obtain ⟨q, hq, rfl, hrow, hbx, hB⟩ := hrel
    obtain ⟨wo, rfl⟩ : ∃ wo : World, wo = wr := ⟨_, rfl⟩
    by_cases hlt : q < L.length
    · obtain ⟨rfl, hfb⟩ := ha (by omega)
      obtain ⟨e0, e1, e2, e3, e4, e5⟩ := (HC.out q hlt).below hB hfb
      have hi3 : (0 : Int) ≤ (q : Int) ∧ (q : Int) < (L.length : Int) := by omega
      have HTK := Lib.hid (List.take_succ_eq_append_getElem hlt)
      have hln : (overP lo hi (L.take q)).length ≤ 4194304 := Nat.le_trans (overP_len _ _ _) (by rw [List.length_take]; omega)
      have hsz := hB.size
      generalize L[q] = x at *
      generalize hT : L.take q = T at *
      obtain ⟨xn, xl, xs, xc, xlo, xhi⟩ := x
      simp only at e0 e1 e2 e3 e4 e5
      obtain ⟨wT, hwT⟩ : ∃ wT, wo.alloc (.cells #[.int .u64 xn, .int .i64 xl, .int .i64 xs, .int .i64 xc, .string (Cd.bs xlo), .string (Cd.bs xhi)] 38) = wT := ⟨_, rfl⟩
      obtain ⟨tb, htb⟩ : ∃ tb, wo.heap.size = tb := ⟨_, rfl⟩
      have tT : Ob.Obj wT tb 38 [.int .u64 xn, .int .i64 xl, .int .i64 xs, .int .i64 xc, .string (Cd.bs xlo), .string (Cd.bs xhi)] := by rw [← hwT, ← htb]; exact Ob.Obj.new wo _ [.int .u64 xn, .int .i64 xl, .int .i64 xs, .int .i64 xc, .string (Cd.bs xlo), .string (Cd.bs xhi)]
      have hjT : Below wo.heap.size wo wT := by rw [← hwT]; exact (Below.refl _ _).alloc (Nat.le_refl _) _
      have hBT := hB.trans (hjT.mono hB.size)
      have hrT := own_below hrow hjT
      have bxT := hbx.below hjT
      have s0 := bxT.cell 0
      have s1 := bxT.cell 1
      have t0 := tT.cell 0
      have t1 := tT.cell 1
      have t2 := tT.cell 2
      have t3 := tT.cell 3
      have t4 := tT.cell 4
      have t5 := tT.cell 5
      simp at s0 s1 t0 t1 t2 t3 t4 t5
      have hk1 : (Cd.bs lo).toList = lo := by rw [ByteArray.toList_mk]
      have hk2 : (Cd.bs hi).toList = hi := by rw [ByteArray.toList_mk]
      have hk3 : (Cd.bs xlo).toList = xlo := by rw [ByteArray.toList_mk]
      have hk4 : (Cd.bs xhi).toList = xhi := by rw [ByteArray.toList_mk]
      have g1 := Mf.bl_le lo xhi
      have g2 := Mf.bl_le xlo hi
      clear hrow hbx hB hjT
      cases hd : (!bytesLess xhi lo && !bytesLess hi xlo) with
      | false =>
        have HE := Lib.hid (show overP lo hi (L.take (q + 1)) = overP lo hi T by rw [HTK.out]; exact overP_snoc_out hd)
        clear hT
        cases p1 : bytesLess xhi lo with
        | true =>
          rw [p1] at g1
          clear g2 hd
          go_wp2_with fail
          go_roundw
          case rel => exact ⟨q + 1, by omega, by go_num, by rw [HE.out]; exact hrT, bxT, hBT⟩
          case measure => simp [intOf]; omega
        | false =>
          cases p2 : bytesLess hi xlo with
          | false => rw [p1, p2] at hd; cases hd
          | true =>
            rw [p1] at g1
            rw [p2] at g2
            clear hd
            go_wp2_with fail
            go_roundw
            case rel => exact ⟨q + 1, by omega, by go_num, by rw [HE.out]; exact hrT, bxT, hBT⟩
            case measure => simp [intOf]; omega
      | true =>
        have HE := Lib.hid (show overP lo hi (L.take (q + 1)) = overP lo hi T ++ [⟨xn, xl, xs, xc, xlo, xhi⟩] by rw [HTK.out]; exact overP_snoc_in hd)
        clear hT
        have p1 : bytesLess xhi lo = false := by cases h : bytesLess xhi lo with | false => rfl | true => rw [h] at hd; cases hd
        have p2 : bytesLess hi xlo = false := by cases h : bytesLess hi xlo with | false => rfl | true => rw [h, Bool.and_comm] at hd; cases hd
        rw [p1] at g1
        rw [p2] at g2
        clear hd
        obtain ⟨ao, capo, rfl, _⟩ := Sq.row_cases hrT
        generalize overP lo hi T = S at *
        have HRW := Lib.hid hrT
        have HBX := Lib.hid bxT
        have HNR := Lib.hid (bxT.not_row (by decide) hrT)
        have hn1 : S.length + 1 ≤ maxLen := by unfold maxLen; omega
        have hn2 : (S.length + 1) * 64 ≤ 140737488355328 := by omega
        have HB := Lib.hid hBT
        have hsT := hBT.size
        have hsT2 := bxT.lt
        clear hrT bxT hBT
        go_wp2_with (at_builtin; refine wpList_append_own _ rfl _ _ 24 rfl (w.heap.size + 1) 38 i0 (.agg #[.int .u64 0, .int .i64 0, .int .i64 0, .int .i64 0, .string ⟨#[]⟩, .string ⟨#[]⟩]) 6 64 Try.underlying24 hi0 hz0 hz1 hz2 rfl (by decide) _ _ _ rfl (HRW.out.alloc (.cells #[.int .u64 xn, .int .i64 xl, .int .i64 xs, .int .i64 xc, .string (Cd.bs xlo), .string (Cd.bs xhi)] 38)) ⟨wT.heap.size, 0, none⟩ 1 1 [.int .u64 xn, .int .i64 xl, .int .i64 xs, .int .i64 xc, .string (Cd.bs xlo), .string (Cd.bs xhi)] rfl rfl (cell_six_new wT _ _ _ _ _ _ _) (by simp [Value.oneCell']) hn1 hn2 (by simp; omega) ?_; intro v4 w4 hown4 hgrow4 _; have HX4 := Lib.hid ((HBX.out.alloc (.cells #[.int .u64 xn, .int .i64 xl, .int .i64 xs, .int .i64 xc, .string (Cd.bs xlo), .string (Cd.bs xhi)] 38)).grown hgrow4 HNR.out); have HB4 := Lib.hid ((HB.out.alloc HB.out.size (.cells #[.int .u64 xn, .int .i64 xl, .int .i64 xs, .int .i64 xc, .string (Cd.bs xlo), .string (Cd.bs xhi)] 38)).grown hgrow4 (by simp; omega) (fun k hk => by have := (Ob.row_lt HRW.out hk).1; omega)); have HO4 := Lib.hid hown4; clear hown4 hgrow4)
        go_roundw
        case rel => exact ⟨q + 1, by omega, by go_num, by rw [HE.out, tcs_snoc, List.length_append, List.length_singleton]; exact HO4.out, HX4.out, HB4.out⟩
        case measure => simp [intOf]; omega
    · obtain rfl : q = L.length := by omega
      rw [List.take_length, HOVR.out] at hrow
      have hi3 : ¬ (L.length : Int) < (L.length : Int) := by omega
      obtain ⟨ao, capo, rfl, _⟩ := Sq.row_cases hrow
      go_wp2_with fail
      go_ret
      exact ⟨.slice ao OV.length capo, rfl, Mf.lowerR hrow (by omega), hB⟩
end Cp
end Go.Proofs.Ytpldfdlnhgmnaaa

/-
  slices.Clone of tables.
-/
namespace Go.Proofs.Ytpldfdlnhgmnaaa
open Go.RowKit
set_option linter.unusedSimpArgs false
set_option linter.unusedVariables false
namespace Cp
open Mf (Tbl Tbs TAt tcs tblV tC tcs_snoc tcs_len tbs_src)
set_option maxRecDepth 100000 in
set_option maxHeartbeats 4000000 in
theorem clone_any (v : Value) (L : List Tbl) (w : World) (hV : Tbs w.heap.size w v L) (hno : ∀ n c, v = .slice none n c → c = 0) (hL : L.length ≤ 8388608) :
    Calls Try.prog 97 #[v] w fun e w' => ∃ r, e = .returned r ∧ w'.ownsRow w.heap.size 38 6 r L.length (tcs L) ∧ Below w.heap.size w w' := by
  obtain ⟨i0, hi0, hz0, hz1, hz2⟩ := info_parts info_Table10
  obtain ⟨a, cap, fb, fo, rfl, ha, hc⟩ := hV
  have hsrc := tbs_src (⟨a, cap, fb, fo, rfl, ha, hc⟩ : Tbs w.heap.size w (.slice a L.length cap) L)
  cases a with
  | none =>
    have h0 : L = [] := by
      apply List.eq_nil_of_length_eq_zero
      apply Nat.eq_zero_of_not_pos
      intro h
      have := (ha h).1
      cases this
    subst h0
    obtain rfl := hno _ _ rfl
    have hq := fun (W : World) => Lib.run_eql_slice_nil (P := Try.prog) W 24 38 none 0 0 0 0 Try.underlying24
    go_enter Try.func97, Try.ntmps97
    go_wp2_with fail
    go_ret
    exact ⟨_, rfl, World.ownsRow_nil _ _ _ _, Below.refl _ _⟩
  | some ad =>
    have HSR := Lib.hid (show ∀ j v, (tcs L)[j]? = some v → (w.alloc (.cells #[] 38)).cell? (ad.add j) = some v from fun j v hj => by
      by_cases h0 : 0 < L.length
      · obtain ⟨ad2, had, hs⟩ := hsrc h0
        injection had with had
        subst had
        have h1 := hs j v hj
        obtain ⟨h2, h3⟩ := ha h0
        injection h2 with h2
        subst h2
        exact (((Below.refl w.heap.size w).alloc (Nat.le_refl _) (.cells #[] 38)).cell (p := (⟨fb, fo, none⟩ : Addr).add j) (by rw [Gn.add_of]; exact h3)).trans h1
      · have : L = [] := List.eq_nil_of_length_eq_zero (by omega)
        subst this
        cases hj)
    have hown : (w.alloc (.cells #[] 38)).ownsRow w.heap.size 38 6 (.slice (some ⟨w.heap.size, 0, none⟩) 0 0) 0 [] := ⟨by simp, .inr ⟨w.heap.size, 0, #[], rfl, Nat.le_refl _, World.alloc_heap_new w _, Nat.le_refl _, Nat.zero_le _, rfl, rfl⟩⟩
    have HOW := Lib.hid hown
    have hn1 : 0 + L.length ≤ maxLen := by unfold maxLen; omega
    have hn2 : (0 + L.length) * 64 ≤ 140737488355328 := by omega
    have hn3 : w.heap.size ≤ (w.alloc (.cells #[] 38)).heap.size := by simp
    have hlt := tcs_len L
    have HLT := Lib.hid hlt
    have HB := Lib.hid ((Below.refl w.heap.size w).alloc (Nat.le_refl _) (.cells #[] 38))
    clear ha hc hsrc hown hlt hno
    have hq := fun (W : World) => Lib.run_eql_slice_nil (P := Try.prog) W 24 38 (some ad) L.length cap 0 0 Try.underlying24
    go_enter Try.func97, Try.ntmps97
    go_wp2_with (at_builtin; refine wpList_append_own _ rfl _ _ 24 rfl w.heap.size 38 i0 (.agg #[.int .u64 0, .int .i64 0, .int .i64 0, .int .i64 0, .string ⟨#[]⟩, .string ⟨#[]⟩]) 6 64 Try.underlying24 hi0 hz0 hz1 hz2 rfl (by decide) _ 0 [] rfl HOW.out ad L.length _ (tcs L) rfl HLT.out HSR.out (Mf.tcs_one _) hn1 hn2 hn3 ?_; intro v4 w4 hown4 hgrow4 _; have HB4 := Lib.hid (HB.out.grown hgrow4 hn3 (fun k hk => by have := (Ob.row_lt HOW.out hk).1; omega)); have HO4 := Lib.hid hown4; clear hown4 hgrow4)
    go_ret
    refine ⟨_, rfl, ?_, HB4.out⟩
    have h := HO4.out
    rw [Nat.zero_add, List.nil_append] at h
    exact h
end Cp
end Go.Proofs.Ytpldfdlnhgmnaaa

/-
  slices.Grow of no tables yet.
-/
namespace Go.Proofs.Ytpldfdlnhgmnaaa
open Go.RowKit
set_option linter.unusedSimpArgs false
set_option linter.unusedVariables false
namespace Cp
open Mf (Tbl Tbs TAt tcs tblV tC tcs_snoc tcs_len tbs_src)
set_option maxRecDepth 100000 in
set_option maxHeartbeats 4000000 in
theorem grow_any (n : Nat) (w : World) (hn : n ≤ 33554432) :
    Calls Try.prog 74 #[.slice none 0 0, .int .i64 (n : Int)] w fun e w' => ∃ r, e = .returned r ∧ w'.ownsRow w.heap.size 38 6 r 0 [] ∧ Below w.heap.size w w' := by
  obtain ⟨i0, hi0, hz0, hz1, hz2⟩ := info_parts info_Table10
  have hw0 : IntKind.i64.wrap ((n : Int) - 0) = (n : Int) := by rw [IntKind.wrap_i64]; omega
  have hw1 : IntKind.i64.wrap (0 - 0) = 0 := by decide
  have hnn : ¬ (n : Int) < 0 := by omega
  by_cases h0 : n = 0
  · subst h0
    go_enter Try.func74, Try.ntmps74
    go_wp2_with fail
    go_ret
    exact ⟨_, rfl, World.ownsRow_nil _ _ _ _, Below.refl _ _⟩
  · have hp : (0 : Int) < (n : Int) := by omega
    have hr := fun (W : World) => Lib.run_append_nil_zeros (P := Try.prog) W 24 3 24 38 i0 _ .i64 _ Try.underlying24 Try.underlying3 hi0 hz0 n (by omega) (by rw [hz1]; decide) (by omega) (by rw [hz2]; omega)
    go_enter Try.func74, Try.ntmps74
    go_wp2_with (at_builtin; refine Lib.wpList_append_run _ rfl _ _ _ _ rfl _ _ rfl rfl _ _ (hr _) ?_)
    go_ret
    have hg := grownCap_ge w n 0 38
    refine ⟨_, rfl, World.ownsRow_made (size := 6) w.drew _ _ (Nat.le_refl _) (grownCap_le_maxLen w n 0 _ (by unfold maxLen; omega)) ?_, ((Below.refl _ _).drew.alloc (Nat.le_refl _) _)⟩
    rw [Array.size_append, size_zeroCells, size_zeroCells]
    show n * 6 + (grownCap w n 0 _ - n) * 6 = _
    rw [← Nat.add_mul]
    congr 1
    omega
end Cp
end Go.Proofs.Ytpldfdlnhgmnaaa

/-
  slices.Concat of rows of tables.
-/
namespace Go.Proofs.Ytpldfdlnhgmnaaa
open Go.RowKit
set_option linter.unusedSimpArgs false
set_option linter.unusedVariables false
namespace Cp
open Mf (Tbl Tbs TAt tcs tblV tC tcs_snoc tcs_len tbs_src)
/-- rows of tables in a row -/
structure RowsIn (B : Nat) (W : World) (a : Option Addr) (b off : Nat) (us : List Value) (LL : List (List Tbl)) : Prop where
  base : 0 < LL.length → a = some ⟨b, off, none⟩ ∧ b < B
  same : us.length = LL.length
  cell : ∀ j (h : j < LL.length) (h' : j < us.length), W.cell? ⟨b, off + j, none⟩ = some us[j] ∧ Tbs B W us[j] LL[j]
  nil : ∀ j (h' : j < us.length) n c, us[j] = .slice none n c → c = 0
def sumL (LL : List (List Tbl)) : Nat := (LL.map List.length).sum
theorem sumL_snoc (LL : List (List Tbl)) (L : List Tbl) : sumL (LL ++ [L]) = sumL LL + L.length := by simp [sumL]
theorem sumL_take (LL : List (List Tbl)) (q : Nat) : sumL (LL.take q) ≤ sumL LL := by
  have h : sumL (LL.take q ++ LL.drop q) = sumL (LL.take q) + sumL (LL.drop q) := by unfold sumL; rw [List.map_append, List.sum_append]
  rw [List.take_append_drop] at h
  omega
theorem flat_len (LL : List (List Tbl)) : LL.flatten.length = sumL LL := by simp [sumL, List.length_flatten]
theorem tcs_app2 (A B : List Tbl) : tcs (A ++ B) = tcs A ++ tcs B := by simp [tcs]

set_option maxRecDepth 100000 in
set_option maxHeartbeats 4000000 in
theorem concat_any (a : Option Addr) (cap b off : Nat) (us : List Value) (LL : List (List Tbl)) (w : World) (hR : RowsIn w.heap.size w a b off us LL) (hL : sumL LL ≤ 33554432) (hn : LL.length ≤ 1000) :
    Calls Try.prog 44 #[.slice a LL.length cap] w fun e w' => ∃ r, e = .returned r ∧ w'.ownsRow w.heap.size 38 6 r LL.flatten.length (tcs LL.flatten) ∧ Below w.heap.size w w' := by
  obtain ⟨i0, hi0, hz0, hz1, hz2⟩ := info_parts info_Table10
  obtain ⟨ha, hs, hc, hnil⟩ := hR
  have HNIL := Lib.hid hnil
  have HC := Lib.hid hc
  obtain ⟨F, hF⟩ : ∃ F, LL.flatten = F := ⟨_, rfl⟩
  have HF := Lib.hid hF
  rw [hF]
  have HST := Lib.hid (sumL_take LL)
  clear hc hF hnil
  go_enter Try.func44, Try.ntmps44
  go_wp2_with fail
  go_loopw [11, 3] (fun i s wr => ∃ q : Nat, q ≤ LL.length ∧ i = .int .i64 (q : Int) ∧ s = .int .i64 (sumL (LL.take q) : Int) ∧ w = wr) (fun i _ _ => LL.length - (intOf i).toNat)
  case atStart => exact ⟨0, Nat.zero_le _, rfl, rfl, rfl⟩
  case round =>
    obtain ⟨q, hq, rfl, rfl, rfl⟩ := hrel
    by_cases hlt : q < LL.length
    · obtain ⟨rfl, hb⟩ := ha (by omega)
      obtain ⟨c1, hT⟩ := HC.out q hlt (by omega)
      have hi3 : (0 : Int) ≤ (q : Int) ∧ (q : Int) < (LL.length : Int) := by omega
      have HSN := Lib.hid (show sumL (LL.take (q + 1)) = sumL (LL.take q) + LL[q].length by rw [List.take_succ_eq_append_getElem hlt, sumL_snoc])
      have h2 := HST.out (q + 1)
      rw [HSN.out] at h2
      obtain ⟨a', cap', fb, fo, hv, _, _⟩ := hT
      rw [hv] at c1
      have hw1 : IntKind.i64.wrap ((sumL (LL.take q) : Int) + (LL[q].length : Int)) = ((sumL (LL.take q) + LL[q].length : Nat) : Int) := by rw [IntKind.wrap_i64]; omega
      have hneg : ¬ ((sumL (LL.take q) + LL[q].length : Nat) : Int) < 0 := by omega
      obtain ⟨S1, hS1⟩ : ∃ S1, sumL (LL.take q) + LL[q].length = S1 := ⟨_, rfl⟩
      rw [hS1] at hw1 hneg h2
      have HS1 := Lib.hid hS1
      clear hv hS1
      generalize sumL (LL.take q) = S at *
      go_wp2_with fail
      go_roundw
      case rel => exact ⟨q + 1, by omega, by go_num, by rw [HSN.out, HS1.out], by first | rfl | trivial⟩
      case measure => simp [intOf]; omega
    · obtain rfl : q = LL.length := by omega
      rw [List.take_length]
      have hi3 : ¬ (LL.length : Int) < (LL.length : Int) := by omega
      have HGR := Lib.hid (grow_any (sumL LL) w hL)
      have hLS : sumL LL ≤ 33554432 := hL
      have HLS := Lib.hid hLS
      clear hLS hL
      obtain ⟨S, hS⟩ : ∃ S, sumL LL = S := ⟨_, rfl⟩
      rw [hS] at HGR ⊢
      clear hS
      clear hi3
      have hi3 : ¬ (LL.length : Int) < (LL.length : Int) := by omega
      go_wp2_with (go_at_call 74; (with_reducible refine HGR.out.mono ?_); rintro e w2 ⟨r, rfl, hown, hb2⟩; obtain ⟨ao, capo, rfl, _⟩ := Sq.row_cases hown)
      clear hi3
      go_loopw [27, 6] (fun i v wr => ∃ q : Nat, q ≤ LL.length ∧ i = .int .i64 (q : Int) ∧ wr.ownsRow w.heap.size 38 6 v (LL.take q).flatten.length (tcs (LL.take q).flatten) ∧ Below w.heap.size w wr) (fun i _ _ => LL.length - (intOf i).toNat)
      case atStart => exact ⟨0, Nat.zero_le _, rfl, hown, hb2⟩
      case round =>
        clear hown hb2
        obtain ⟨q, hq, rfl, hrow, hB⟩ := hrel
        obtain ⟨wo, rfl⟩ : ∃ wo : World, wo = wr := ⟨_, rfl⟩
        by_cases hlt : q < LL.length
        · obtain ⟨rfl, hb⟩ := ha (by omega)
          obtain ⟨c1, hT⟩ := HC.out q hlt (by omega)
          have c2 := (hB.cell (p := ⟨b, off + q, none⟩) hb).trans c1
          have hi3 : (0 : Int) ≤ (q : Int) ∧ (q : Int) < (LL.length : Int) := by omega
          have HTK := Lib.hid (show (LL.take (q + 1)).flatten = (LL.take q).flatten ++ LL[q] by rw [List.take_succ_eq_append_getElem hlt, List.flatten_append]; simp)
          have hlen : (LL.take q).flatten.length + LL[q].length ≤ 33554432 := by
            rw [flat_len, ← sumL_snoc, ← List.take_succ_eq_append_getElem hlt]
            exact Nat.le_trans (HST.out _) HLS.out
          have hnl := HNIL.out q (by omega)
          clear c1
          generalize us[q]'(by omega) = u at *
          generalize LL[q] = R at *
          generalize (LL.take q).flatten = S at *
          obtain ⟨ao, capo, rfl, _⟩ := Sq.row_cases hrow
          obtain ⟨a', cap', fb, fo, rfl, ha', hc'⟩ := hT
          have hsrc := tbs_src (⟨a', cap', fb, fo, rfl, ha', hc'⟩ : Tbs w.heap.size w (.slice a' R.length cap') R)
          have HRW := Lib.hid hrow
          have HB := Lib.hid hB
          cases a' with
          | none =>
            obtain rfl : R = [] := by
              apply List.eq_nil_of_length_eq_zero
              apply Nat.eq_zero_of_not_pos
              intro h
              have := (ha' h).1
              cases this
            obtain rfl := hnl _ _ rfl
            clear hnl hsrc ha' hc' hrow hB
            go_wp2_with (at_builtin; refine wpList_append_own_none rfl _ _ 24 rfl w.heap.size 38 i0 6 Try.underlying24 hi0 _ _ _ rfl HRW.out rfl ?_)
            go_roundw
            case rel => exact ⟨q + 1, by omega, by go_num, by rw [HTK.out, List.append_nil]; exact HRW.out, HB.out⟩
            case measure => simp [intOf]; omega
          | some ad =>
            have HSR := Lib.hid (show ∀ j v, (tcs R)[j]? = some v → wo.cell? (ad.add j) = some v from fun j v hj => by
              by_cases h0 : 0 < R.length
              · obtain ⟨ad2, had, hs2⟩ := hsrc h0
                injection had with had
                subst had
                have h1 := hs2 j v hj
                obtain ⟨h2, h3⟩ := ha' h0
                injection h2 with h2
                subst h2
                exact (HB.out.cell (p := (⟨fb, fo, none⟩ : Addr).add j) (by rw [Gn.add_of]; exact h3)).trans h1
              · have : R = [] := List.eq_nil_of_length_eq_zero (by omega)
                subst this
                cases hj)
            have HLT := Lib.hid (tcs_len R)
            have hn1 : S.length + R.length ≤ maxLen := by unfold maxLen; omega
            have hn2 : (S.length + R.length) * 64 ≤ 140737488355328 := by omega
            have hn3 : w.heap.size ≤ wo.heap.size := hB.size
            clear hnl hsrc ha' hc' hrow hB
            go_wp2_with (at_builtin; refine wpList_append_own _ rfl _ _ 24 rfl w.heap.size 38 i0 (.agg #[.int .u64 0, .int .i64 0, .int .i64 0, .int .i64 0, .string ⟨#[]⟩, .string ⟨#[]⟩]) 6 64 Try.underlying24 hi0 hz0 hz1 hz2 rfl (by decide) _ _ _ rfl HRW.out ad R.length _ (tcs R) rfl HLT.out HSR.out (Mf.tcs_one _) hn1 hn2 hn3 ?_; intro v4 w4 hown4 hgrow4 _; have HB4 := Lib.hid (HB.out.grown hgrow4 hn3 (fun k hk => (Ob.row_lt HRW.out hk).1)); have HO4 := Lib.hid hown4; clear hown4 hgrow4)
            go_roundw
            case rel => exact ⟨q + 1, by omega, by go_num, by rw [HTK.out, tcs_app2, List.length_append]; exact HO4.out, HB4.out⟩
            case measure => simp [intOf]; omega
        · obtain rfl : q = LL.length := by omega
          rw [List.take_length, HF.out] at hrow
          have hi3 : ¬ (LL.length : Int) < (LL.length : Int) := by omega
          obtain ⟨ao, capo, rfl, _⟩ := Sq.row_cases hrow
          go_wp2_with fail
          go_ret
          exact ⟨.slice ao F.length capo, rfl, hrow, hB⟩
end Cp
end Go.Proofs.Ytpldfdlnhgmnaaa

/-
  The program's manifest: ownTexts: the texts of a list of its own, cloned; what is stored is what stood there.
-/
namespace Go.Proofs.Ytpldfdlnhgmnaaa
open Go.RowKit
set_option linter.unusedSimpArgs false
set_option linter.unusedVariables false
namespace Md10
open Mf
/-- a store of what stands there already leaves the world as it is -/
theorem setCell_self {W : World} {p : Addr} {v : Value} (h : W.cell? p = some v) : W.setCell p v = W := by
  unfold World.cell? at h
  split at h
  · rename_i c e fz hh
    split at h
    · cases h
    · rename_i hs
      have hc : c.setIfInBounds p.off v = c := by
        apply Array.ext_getElem?
        intro i
        rw [Array.getElem?_setIfInBounds]
        split
        · rename_i e2
          subst e2
          split
          · exact h.symm
          · rename_i h3
            rw [Array.getElem?_eq_none (by omega)] at h
            cases h
        · rfl
      have hm : (W.setCell p v).heap = W.heap := by
        unfold World.setCell
        simp only
        apply Array.ext_getElem?
        intro i
        rw [Array.getElem?_modify]
        split
        · rename_i e2
          subst e2
          rw [hh]
          simp [hs, hc]
        · rfl
      show ({ W with heap := (W.setCell p v).heap } : World) = W
      rw [hm]
  · cases h
theorem same2 {n : Nat} {w W : World} {p q : Addr} {u v : Value} (hB : Below n w W) (h1 : W.cell? p = some u) (h2 : W.cell? q = some v) : Below n w ((W.setCell p u).setCell q v) := by
  rw [setCell_self h1, setCell_self h2]
  exact hB

set_option maxRecDepth 100000 in
set_option maxHeartbeats 4000000 in
theorem ownTexts_any (B0 : Nat) (u : Value) (L : List Tbl) (w : World) (hO : w.ownsRow B0 38 6 u L.length (tcs L)) (hL : L.length ≤ 1048576) (hx : ∀ x ∈ L, TblIn x) :
    Calls Try.prog 29 #[u] w fun e w' => e = .returned (.tuple #[]) ∧ Below w.heap.size w w' := by
  obtain ⟨fb, fo, a, cap, cur, rfl, ha⟩ : ∃ (fb fo : Nat) (a : Option Addr) (cap : Nat) (cur : List Value), u = .slice a L.length cap ∧ (0 < L.length → a = some ⟨fb, fo, none⟩ ∧ Ob.Obj w fb 38 cur ∧ ∀ j, j < L.length * 6 → cur[fo + j]? = (tcs L)[j]?) := by
    rcases hO.2 with ⟨rfl, h0⟩ | ⟨g, cap, cur, rfl, _, h3, h4, _, h5, h6⟩
    · exact ⟨0, 0, none, 0, [], by rw [h0], fun h => by omega⟩
    · refine ⟨g, 0, _, cap, cur.toList, rfl, fun _ => ⟨rfl, by unfold Ob.Obj; rw [h3], fun j hj => ?_⟩⟩
      rw [← h6, List.getElem?_take, if_pos hj, Nat.zero_add]
  clear hO
  have HA := Lib.hid ha
  clear ha
  go_enter Try.func29, Try.ntmps29
  go_wp2_with fail
  go_loopw [6] (fun i wr => ∃ q : Nat, q ≤ L.length ∧ i = .int .i64 (q : Int) ∧ Below w.heap.size w wr) (fun i _ => L.length - (intOf i).toNat)
  case atStart => exact ⟨0, Nat.zero_le _, rfl, Below.refl _ _⟩
  case round =>
    obtain ⟨q, hq, rfl, hB⟩ := hrel
    obtain ⟨wo, rfl⟩ : ∃ wo : World, wo = wr := ⟨_, rfl⟩
    by_cases hlt : q < L.length
    · obtain ⟨rfl, o, hc⟩ := HA.out (by omega)
      have o0 := o.below hB
      have hi1 : (0 : Int) ≤ (q : Int) ∧ (q : Int) < (L.length : Int) := by omega
      have hk4 : cur[fo + q * 6 + 4]? = some (.string (Cd.bs L[q].lo)) := by
        rw [Nat.add_assoc, hc _ (by omega)]
        exact (tcs_get L q hlt 4 (by omega))
      have hk5 : cur[fo + q * 6 + 5]? = some (.string (Cd.bs L[q].hi)) := by
        rw [Nat.add_assoc, hc _ (by omega)]
        exact (tcs_get L q hlt 5 (by omega))
      have hxx := hx _ (List.getElem_mem hlt)
      have C1 := Lib.hid (fun W => clone_any (Cd.bs L[q].lo) W (by have := hxx.lo; show L[q].lo.length ≤ _; omega))
      have C2 := Lib.hid (fun W => clone_any (Cd.bs L[q].hi) W (by have := hxx.hi; show L[q].hi.length ≤ _; omega))
      generalize L[q] = y at *
      clear o hc hxx hx
      have HK4 := Lib.hid hk4
      have HK5 := Lib.hid hk5
      have x04 := (o0.cell (fo + q * 6 + 4)).trans hk4
      have x05 := (o0.cell (fo + q * 6 + 5)).trans hk5
      have f04 := o0.frozen (fo + q * 6 + 4)
      have f05 := o0.frozen (fo + q * 6 + 5)
      have hz0 := o0.lt
      clear hk4 hk5
      go_upto_block 1 with fail
      go_cut [] from 8 to 29 (fun wx => Below w.heap.size w wx)
      case first =>
        go_upto_region 4 with fail
        go_region_with (first
          | (go_at_call 57; (with_reducible refine (C1.out _).mono ?_); rintro e w1 ⟨rfl, hb1⟩; have o1 := Ob.Obj.below (by exact o0) hb1; have x14 := (o1.cell (fo + q * 6 + 4)).trans HK4.out; have x15 := (o1.cell (fo + q * 6 + 5)).trans HK5.out; have f14 := o1.frozen (fo + q * 6 + 4); have f15 := o1.frozen (fo + q * 6 + 5); have hz1 := o1.lt; have hB1 := Below.trans (b := _) (by first | exact hB | exact hB.drew) (hb1.mono (by exact hB.size)))
          | (go_at_call 57; (with_reducible refine (C2.out _).mono ?_); rintro e w2 ⟨rfl, hb2⟩; have o2 := Ob.Obj.below (by exact o1) hb2; have x24 := (o2.cell (fo + q * 6 + 4)).trans HK4.out; have x25 := (o2.cell (fo + q * 6 + 5)).trans HK5.out; have f24 := o2.frozen (fo + q * 6 + 4); have f25 := o2.frozen (fo + q * 6 + 5); have hz2 := o2.lt; have hB2 := Below.trans (b := _) (by first | exact hB1 | exact hB1.drew) (hb2.mono (by exact hB1.size))))
        all_goals (try go_wp2_with fail)
        all_goals go_meet
        all_goals (first | exact same2 hB2 x24 x25 | exact same2 hB2 x25 x24)
      case rest =>
        have hBc := hcut
        clear x04 x05 f04 f05 hz0 hB o0
        go_wp2_with fail
        go_roundw
        case rel => exact ⟨q + 1, by omega, by go_num, hBc⟩
        case measure => simp [intOf]; omega
    · have hi1 : ¬ (q : Int) < (L.length : Int) := by omega
      go_wp2_with fail
      go_end0
      exact ⟨rfl, hB⟩
end Md10
end Go.Proofs.Ytpldfdlnhgmnaaa

/-
  compact: own: tables in memory of their own.
-/
namespace Go.Proofs.Ytpldfdlnhgmnaaa
open Go.RowKit
set_option linter.unusedSimpArgs false
set_option linter.unusedVariables false
namespace Cp
open Mf (Tbl Tbs TAt TblIn tcs tblV tC tcs_snoc tcs_len tbs_src tcs_get)
open Md10 (setCell_self same2)
theorem row_obj {w : World} {B0 : Nat} {u : Value} {L : List Tbl} (hO : w.ownsRow B0 38 6 u L.length (tcs L)) : ∃ (fb fo : Nat) (a : Option Addr) (cap : Nat) (cur : List Value), u = .slice a L.length cap ∧ (0 < L.length → a = some ⟨fb, fo, none⟩ ∧ Ob.Obj w fb 38 cur ∧ ∀ j, j < L.length * 6 → cur[fo + j]? = (tcs L)[j]?) := by
  rcases hO.2 with ⟨rfl, h0⟩ | ⟨g, cap, cur, rfl, _, h3, h4, _, h5, h6⟩
  · exact ⟨0, 0, none, 0, [], by rw [h0], fun h => by omega⟩
  · refine ⟨g, 0, _, cap, cur.toList, rfl, fun _ => ⟨rfl, by unfold Ob.Obj; rw [h3], fun j hj => ?_⟩⟩
    rw [← h6, List.getElem?_take, if_pos hj, Nat.zero_add]

set_option maxRecDepth 100000 in
set_option maxHeartbeats 4000000 in
theorem own_any (v : Value) (L : List Tbl) (w : World) (hV : Tbs w.heap.size w v L) (hno : ∀ n c, v = .slice none n c → c = 0) (hL : L.length ≤ 1048576) (hx : ∀ x ∈ L, TblIn x) :
    Calls Try.prog 79 #[v] w fun e w' => ∃ r, e = .returned r ∧ w'.ownsRow w.heap.size 38 6 r L.length (tcs L) ∧ Below w.heap.size w w' := by
  have HCL := Lib.hid (Cp.clone_any v L w hV hno (by omega))
  obtain ⟨av, cv, rfl⟩ : ∃ a c, v = .slice a L.length c := by obtain ⟨a, c, _, _, h, _⟩ := hV; exact ⟨a, c, h⟩
  clear hV hno
  go_enter Try.func79, Try.ntmps79
  go_wp2_with (go_at_call 97; (with_reducible refine HCL.out.mono ?_); rintro e w1 ⟨r, rfl, hown, hb1⟩; obtain ⟨fb, fo, a, cap, cur, rfl, ha⟩ := row_obj hown; have HOW := Lib.hid hown; have HB1 := Lib.hid hb1; have HA := Lib.hid ha; clear ha hown hb1)
  go_loopw [10] (fun i wr => ∃ q : Nat, q ≤ L.length ∧ i = .int .i64 (q : Int) ∧ Below w1.heap.size w1 wr) (fun i _ => L.length - (intOf i).toNat)
  case atStart => exact ⟨0, Nat.zero_le _, rfl, Below.refl _ _⟩
  case round =>
    obtain ⟨q, hq, rfl, hB⟩ := hrel
    obtain ⟨wo, rfl⟩ : ∃ wo : World, wo = wr := ⟨_, rfl⟩
    by_cases hlt : q < L.length
    · obtain ⟨rfl, o, hc⟩ := HA.out (by omega)
      have o0 := o.below hB
      have hi1 : (0 : Int) ≤ (q : Int) ∧ (q : Int) < (L.length : Int) := by omega
      have hk4 : cur[fo + q * 6 + 4]? = some (.string (Cd.bs L[q].lo)) := by
        rw [Nat.add_assoc, hc _ (by omega)]
        exact (tcs_get L q hlt 4 (by omega))
      have hk5 : cur[fo + q * 6 + 5]? = some (.string (Cd.bs L[q].hi)) := by
        rw [Nat.add_assoc, hc _ (by omega)]
        exact (tcs_get L q hlt 5 (by omega))
      have hxx := hx _ (List.getElem_mem hlt)
      have C1 := Lib.hid (fun W => _root_.Go.Proofs.Ytpldfdlnhgmnaaa.clone_any (Cd.bs L[q].lo) W (by have := hxx.lo; show L[q].lo.length ≤ _; omega))
      have C2 := Lib.hid (fun W => _root_.Go.Proofs.Ytpldfdlnhgmnaaa.clone_any (Cd.bs L[q].hi) W (by have := hxx.hi; show L[q].hi.length ≤ _; omega))
      generalize L[q] = y at *
      clear o hc hxx hx
      have HK4 := Lib.hid hk4
      have HK5 := Lib.hid hk5
      have x04 := (o0.cell (fo + q * 6 + 4)).trans hk4
      have x05 := (o0.cell (fo + q * 6 + 5)).trans hk5
      have f04 := o0.frozen (fo + q * 6 + 4)
      have f05 := o0.frozen (fo + q * 6 + 5)
      have hz0 := o0.lt
      clear hk4 hk5
      go_upto_block 1 with fail
      go_cut [] from 12 to 32 (fun wx => Below w1.heap.size w1 wx)
      case first =>
        go_upto_region 6 with fail
        go_region_with (first
          | (go_at_call 57; (with_reducible refine (C1.out _).mono ?_); rintro e v1 ⟨rfl, hb1⟩; have o1 := Ob.Obj.below (by exact o0) hb1; have x14 := (o1.cell (fo + q * 6 + 4)).trans HK4.out; have x15 := (o1.cell (fo + q * 6 + 5)).trans HK5.out; have f14 := o1.frozen (fo + q * 6 + 4); have f15 := o1.frozen (fo + q * 6 + 5); have hz1 := o1.lt; have hB1 := Below.trans (b := _) (by first | exact hB | exact hB.drew) (hb1.mono (by exact hB.size)))
          | (go_at_call 57; (with_reducible refine (C2.out _).mono ?_); rintro e v2 ⟨rfl, hb2⟩; have o2 := Ob.Obj.below (by exact o1) hb2; have x24 := (o2.cell (fo + q * 6 + 4)).trans HK4.out; have x25 := (o2.cell (fo + q * 6 + 5)).trans HK5.out; have f24 := o2.frozen (fo + q * 6 + 4); have f25 := o2.frozen (fo + q * 6 + 5); have hz2 := o2.lt; have hB2 := Below.trans (b := _) (by first | exact hB1 | exact hB1.drew) (hb2.mono (by exact hB1.size))))
        all_goals (try go_wp2_with fail)
        all_goals go_meet
        all_goals (first | exact same2 hB2 x24 x25 | exact same2 hB2 x25 x24)
      case rest =>
        have hBc := hcut
        clear x04 x05 f04 f05 hz0 hB o0
        go_wp2_with fail
        go_roundw
        case rel => exact ⟨q + 1, by omega, by go_num, hBc⟩
        case measure => simp [intOf]; omega
    · have hi1 : ¬ (q : Int) < (L.length : Int) := by omega
      go_wp2_with fail
      go_ret
      exact ⟨.slice a L.length cap, rfl, own_below HOW.out hB, HB1.out.trans (hB.mono HB1.out.size)⟩
end Cp
end Go.Proofs.Ytpldfdlnhgmnaaa

/-
  compact: behind's literal.
-/
namespace Go.Proofs.Ytpldfdlnhgmnaaa
open Go.RowKit
set_option linter.unusedSimpArgs false
set_option linter.unusedVariables false
namespace Cp
open Op (bytesLess)
open Mf (Tbl Tbs TAt TblIn tcs tblV tC)
set_option maxRecDepth 100000 in
set_option maxHeartbeats 4000000 in
theorem behind1_any (kb : Nat) (key : List UInt8) (n l s c : Int) (lo hi : List UInt8) (w : World) (hk : w.cell? ⟨kb, 0, none⟩ = some (.string (Cd.bs key))) (hb : kb < w.heap.size) :
    Calls Try.prog 96 #[.agg #[.int .u64 n, .int .i64 l, .int .i64 s, .int .i64 c, .string (Cd.bs lo), .string (Cd.bs hi)], .pointer (some ⟨kb, 0, none⟩)] w fun e w' => e = .returned (.bool (bytesLess key hi)) ∧ Below w.heap.size w w' := by
  obtain ⟨wA, hA⟩ : ∃ wA, w.alloc (.cells #[.int .u64 n, .int .i64 l, .int .i64 s, .int .i64 c, .string (Cd.bs lo), .string (Cd.bs hi)] 38) = wA := ⟨_, rfl⟩
  have bA : Below w.heap.size w wA := by rw [← hA]; exact (Below.refl _ _).alloc (Nat.le_refl _) _
  have xA : Ob.Obj wA w.heap.size 38 [.int .u64 n, .int .i64 l, .int .i64 s, .int .i64 c, .string (Cd.bs lo), .string (Cd.bs hi)] := by rw [← hA]; exact Ob.Obj.new w _ [.int .u64 n, .int .i64 l, .int .i64 s, .int .i64 c, .string (Cd.bs lo), .string (Cd.bs hi)]
  have k0 := (bA.cell (p := ⟨kb, 0, none⟩) hb).trans hk
  have x5 := xA.cell 5
  simp at x5
  have hk1 : (Cd.bs key).toList = key := by rw [ByteArray.toList_mk]
  have hk2 : (Cd.bs hi).toList = hi := by rw [ByteArray.toList_mk]
  go_enter Try.func96, Try.ntmps96
  go_wp2_with fail
  all_goals go_ret
  all_goals refine ⟨congrArg (fun b => Ending.returned (.bool b)) ?_, bA⟩
  all_goals (have hq := Mf.bl_le hi key; first | (simp_all; done) | (simp only [hk1, hk2, hq, Bool.not_not]; done) | (rw [← Bool.not_or, hq, Bool.not_not]))

set_option maxRecDepth 100000 in
set_option maxHeartbeats 4000000 in
theorem indexFunc_any (v : Value) (L : List Tbl) (kb : Nat) (key : List UInt8) (w : World) (hV : Tbs w.heap.size w v L) (hk : w.cell? ⟨kb, 0, none⟩ = some (.string (Cd.bs key))) (hb : kb < w.heap.size) (hL : L.length ≤ 8388608) :
    Calls Try.prog 95 #[v, .func (.func 96) #[] #[.pointer (some ⟨kb, 0, none⟩)]] w fun e w' => e = .returned (.int .i64 (if (L.takeWhile fun x => !bytesLess key x.hi).length = L.length then -1 else ((L.takeWhile fun x => !bytesLess key x.hi).length : Int))) ∧ Below w.heap.size w w' := by
  obtain ⟨a, cap, fb, fo, rfl, ha, hc⟩ := hV
  have HC := Lib.hid hc
  have HB1 := Lib.hid (fun n l s c lo hi W (h : Below w.heap.size w W) => behind1_any kb key n l s c lo hi W ((h.cell (p := ⟨kb, 0, none⟩) hb).trans hk) (Nat.lt_of_lt_of_le hb h.size))
  obtain ⟨P, hP⟩ : ∃ P, (L.takeWhile fun x => !bytesLess key x.hi).length = P := ⟨_, rfl⟩
  have HTW := Lib.hid (fun q h1 h2 h3 => (hP.symm.trans (tw_eq (p := fun x => !bytesLess key x.hi) L q h1 h2 h3) : P = q))
  obtain ⟨A, hA⟩ : ∃ A : Int, (if P = L.length then -1 else (P : Int)) = A := ⟨_, rfl⟩
  have HA := Lib.hid hA
  rw [hP, hA]
  clear hc hP hk hA
  go_enter Try.func95, Try.ntmps95
  go_wp2_with fail
  go_loopw [8] (fun i wr => ∃ q : Nat, q ≤ L.length ∧ i = .int .i64 (q : Int) ∧ Hid (∀ y ∈ L.take q, (!bytesLess key y.hi) = true) ∧ Below w.heap.size w wr) (fun i _ => L.length - (intOf i).toNat)
  case atStart => exact ⟨0, Nat.zero_le _, rfl, fun y hy => by simp at hy, Below.refl _ _⟩
  case round =>
    obtain ⟨q, hq, rfl, HN, hB⟩ := hrel
    obtain ⟨wo, rfl⟩ : ∃ wo : World, wo = wr := ⟨_, rfl⟩
    by_cases hlt : q < L.length
    · obtain ⟨rfl, hfb⟩ := ha (by omega)
      obtain ⟨e0, e1, e2, e3, e4, e5⟩ := (HC.out q hlt).below hB hfb
      have hi3 : (0 : Int) ≤ (q : Int) ∧ (q : Int) < (L.length : Int) := by omega
      have HTK := Lib.hid (List.take_succ_eq_append_getElem hlt)
      have HST := Lib.hid (fun (h : (!bytesLess key L[q].hi) = false) => HTW.out q hq HN.out (fun _ => h))
      generalize L[q] = x at *
      obtain ⟨xn, xl, xs, xc, xlo, xhi⟩ := x
      simp only at e0 e1 e2 e3 e4 e5 HST
      cases hd : bytesLess key xhi with
      | true =>
        have HP := Lib.hid (HST.out (by rw [hd]; rfl))
        have HD := Lib.hid hd
        have hne : ¬ q = L.length := by omega
        have HNE := Lib.hid hne
        clear hd hne
        go_wp2_with (go_at_call 96; (with_reducible refine (HB1.out _ _ _ _ _ _ _ hB).mono ?_); rintro e w2 ⟨rfl, hb2⟩; rw [HD.out])
        go_ret
        exact ⟨by rw [← HA.out, HP.out, if_neg HNE.out]; rfl, hB.trans (hb2.mono hB.size)⟩
      | false =>
        have HD := Lib.hid hd
        have HN2 : Hid (∀ y ∈ L.take (q + 1), (!bytesLess key y.hi) = true) := fun y hy => by
          rw [HTK.out] at hy
          rcases List.mem_append.1 hy with hy | hy
          · exact HN.out y hy
          · simp at hy; subst hy; rw [HD.out]; rfl
        clear hd HN HTK HST
        go_wp2_with (go_at_call 96; (with_reducible refine (HB1.out _ _ _ _ _ _ _ hB).mono ?_); rintro e w2 ⟨rfl, hb2⟩; rw [HD.out])
        go_roundw
        case rel => exact ⟨q + 1, by omega, by go_num, HN2, hB.trans (hb2.mono hB.size)⟩
        case measure => simp [intOf]; omega
    · obtain rfl : q = L.length := by omega
      have HP := Lib.hid (HTW.out _ (Nat.le_refl _) HN.out (fun h => absurd h (Nat.lt_irrefl _)))
      have hi3 : ¬ (L.length : Int) < (L.length : Int) := by omega
      go_wp2_with fail
      go_ret
      exact ⟨by rw [← HA.out, HP.out, if_pos rfl]; rfl, hB⟩
end Cp
end Go.Proofs.Ytpldfdlnhgmnaaa
