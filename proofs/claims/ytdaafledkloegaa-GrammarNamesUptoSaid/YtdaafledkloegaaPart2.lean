import Derived.RangeFuncNested
import Derived.RangeFuncLeaves
import Derived.RangeFuncBox
import Derived.Below
import Derived.Deep.Draws
import Derived.Test.YtdaafledkloegaaProg
import Derived.WalkKit
import Derived.WalkSpells
import Derived.WalkLawsBesides
import Derived.Outline
import Derived.Lib.Hide
import Derived.Deep.LoopGhost
import Derived.Lib.Strings
import Derived.Lib.Walk
import Derived.Lib.BufferWrite
import Derived.Lib.UnsafeStr
import Derived.Laws.MakeOwn
import Derived.BigQuiet
import Derived.Deep.QuietTactic
import Derived.WalkSmall
import Derived.BigRegion
import Derived.Test.YtdaafledkloegaaPart1
/-
  Plain mathematics of P2.5: what was put is taken; no beginning of it is a frame; one byte turned is seen; frames one behind the other.
-/
namespace Go.Proofs.Ytdaafledkloegaa
namespace Fr
open Go.RowKit

/-! what was put is taken -/
theorem takeT_putT' (s r : List UInt8) (m : Int) (h : s.length < 18446744073709551616) (hm : s.length ≤ m.toNat) : Cd.takeT (Cd.putT s ++ r) m = (s, (Cd.putT s).length, 0) := by
  have hu := Cd.takeU_putU s.length (s ++ r) h
  have e : Cd.putT s ++ r = Cd.putU s.length ++ (s ++ r) := by rw [Cd.putT, List.append_assoc]
  rw [e, Cd.takeT_text hu hm (by simp)]
  simp [Cd.putT]
theorem lit4 (n : Nat) (x : List UInt8) : (lit n ++ x).take 4 = lit n := by rw [List.take_left' (lit_len n)]
theorem lit4d (n : Nat) (x : List UInt8) : (lit n ++ x).drop 4 = x := by rw [List.drop_left' (lit_len n)]
theorem lit5d (n : Nat) (c : UInt8) (x : List UInt8) : (lit n ++ c :: x).drop 5 = x := by
  have : (lit n ++ c :: x).drop 5 = ((lit n ++ c :: x).drop 4).drop 1 := by rw [List.drop_drop]
  rw [this, lit4d]; rfl
theorem lit4g (n : Nat) (c : UInt8) (x : List UInt8) : (lit n ++ c :: x).getD 4 0 = c := by
  rw [List.getD_eq_getElem?_getD, List.getElem?_append_right (by rw [lit_len]; omega), lit_len]; rfl
theorem litlen (n : Nat) (c : UInt8) (x : List UInt8) : (lit n ++ c :: x).length = 5 + x.length := by rw [List.length_append, lit_len, List.length_cons]; omega
/-- whatever stands in the sum's place: the frame is there just where the sum is the right one -/
theorem take_form {n : Nat} {c : UInt8} {l r : List UInt8} (hc : ¬ c.toNat = 0) (hl : l.length ≤ 262144) :
    take (lit n ++ c :: (Cd.putT l ++ r)) = if lit (sum (c :: Cd.putT l)) = lit n then ((c, l), 5 + (Cd.putT l).length, 0) else ((0, []), 0, 3) := by
  have ht := takeT_putT' l r 262144 (by omega) (by simpa using hl)
  have h5 : 5 ≤ (lit n ++ c :: (Cd.putT l ++ r)).length := by rw [litlen]; omega
  have h0 : ¬ ((lit n ++ c :: (Cd.putT l ++ r)).getD 4 0).toNat = 0 := by rw [lit4g]; exact hc
  have hr : ((lit n ++ c :: (Cd.putT l ++ r)).drop 4).take ((Cd.putT l).length + 1) = c :: Cd.putT l := by rw [lit4d, List.take_succ_cons, List.take_left' rfl]
  by_cases hs : lit (sum (c :: Cd.putT l)) = lit n
  · rw [take_ok (t := l) (n := (Cd.putT l).length) h5 h0 (by rw [lit5d]; exact ht) (by rw [hr, lit4]; exact hs), if_pos hs, lit4g]
  · rw [take_bad (t := l) (n := (Cd.putT l).length) h5 h0 (by rw [lit5d]; exact ht) (by rw [hr, lit4]; exact hs), if_neg hs]
theorem take_put {c : UInt8} {l r : List UInt8} (hc : ¬ c.toNat = 0) (hl : l.length ≤ 262144) :
    take ((put c l).1 ++ r) = ((c, l), (put c l).1.length, 0) := by
  have e : (lit (sum (c :: Cd.putT l)) ++ c :: Cd.putT l) ++ r = lit (sum (c :: Cd.putT l)) ++ c :: (Cd.putT l ++ r) := by simp
  rw [put_ok hc hl]
  show take ((lit (sum (c :: Cd.putT l)) ++ c :: Cd.putT l) ++ r) = _
  rw [e, take_form hc hl, if_pos rfl]
  show _ = ((c, l), (lit (sum (c :: Cd.putT l)) ++ c :: Cd.putT l).length, 0)
  rw [litlen]

/-! no beginning is a frame -/
theorem takeGo_cut (m : Nat) : ∀ (i acc k : Nat), i ≤ 9 → m * 128 ^ i < 18446744073709551616 → (0 < i → 1 ≤ m) → k < (Cd.putU m).length → Cd.takeGo ((Cd.putU m).take k) i acc = (0, 0, 2) := by
  induction m using Nat.strongRecOn with
  | ind m ih =>
    intro i acc k hi hm h1 hk
    cases k with
    | zero => simp [Cd.takeGo]
    | succ k =>
      have h9 : (128 : Nat) ^ 9 = 9223372036854775808 := by decide
      by_cases h : m < 128
      · rw [Cd.putU_last h] at hk; simp at hk
      · have e := Cd.ofNat_low (m := m % 128 + 128) (by omega)
        have hi8 : i ≠ 9 := by
          rintro rfl
          have : 128 * 128 ^ 9 ≤ m * 128 ^ 9 := Nat.mul_le_mul_right _ (by omega)
          omega
        rw [Cd.putU_more (by omega), List.length_cons] at hk
        rw [Cd.putU_more (by omega), List.take_succ_cons, Cd.go_more (by rw [e]; omega) (by rw [e]; omega)]
        have hs := Cd.put_step (m := m) (k := i) (Nat.le_refl _)
        exact ih (m / 128) (by omega) (i + 1) _ k (by omega) (by omega) (by omega) (by omega)
theorem takeU_cut (m k : Nat) (h : m < 18446744073709551616) (hk : k < (Cd.putU m).length) : Cd.takeU ((Cd.putU m).take k) = (0, 0, 2) :=
  takeGo_cut m 0 0 k (by omega) (by simpa using h) (by omega) hk
theorem takeT_cut (l : List UInt8) (k : Nat) (hl : l.length ≤ 262144) (hk : k < (Cd.putT l).length) : Cd.takeT ((Cd.putT l).take k) 262144 = ([], 0, 2) := by
  unfold Cd.putT at hk ⊢
  rw [List.length_append] at hk
  by_cases h : k < (Cd.putU l.length).length
  · rw [List.take_append_of_le_length (by omega)]
    exact Cd.takeT_err (takeU_cut _ _ (by omega) h) (by omega)
  · rw [List.take_append, List.take_of_length_le (by omega)]
    have hu := Cd.takeU_putU l.length (l.take (k - (Cd.putU l.length).length)) (by omega)
    exact Cd.takeT_more hu (by simpa using hl) (by rw [List.length_append, List.length_take]; omega)
theorem take_cut {c : UInt8} {l : List UInt8} (hc : ¬ c.toNat = 0) (hl : l.length ≤ 262144) (k : Nat) (hk : k < (put c l).1.length) : (take ((put c l).1.take k)).2.2 = 2 := by
  rw [put_ok hc hl] at hk ⊢
  simp only at hk ⊢
  rw [litlen] at hk
  by_cases h5 : k < 5
  · rw [take_few (by rw [List.length_take]; omega)]
  · have e : (lit (sum (c :: Cd.putT l)) ++ c :: Cd.putT l).take k = lit (sum (c :: Cd.putT l)) ++ c :: (Cd.putT l).take (k - 5) := by
      rw [List.take_append, List.take_of_length_le (by rw [lit_len]; omega), lit_len, show k - 4 = (k - 5) + 1 from by omega, List.take_succ_cons]
    rw [e, take_err (t := []) (n := 0) (e := 2) (by rw [litlen]; omega) (by rw [lit4g]; exact hc) (by rw [lit5d]; exact takeT_cut l (k - 5) hl (by omega)) (by omega)]

/-! one byte turned is seen -/
theorem xor_cancel {a b p : Nat} (h : a ^^^ p = b ^^^ p) : a = b := by
  have h2 := congrArg (· ^^^ p) h
  simpa [Nat.xor_assoc] using h2
theorem xor_cancel_l {a b p : Nat} (h : p ^^^ a = p ^^^ b) : a = b := xor_cancel (p := p) (by rw [Nat.xor_comm a p, Nat.xor_comm b p]; exact h)
theorem step_mixed {a b : Nat} (ha : a < 4294967296) (hb : b < 4294967296) (h : a / 2 ^^^ 3988292384 = b / 2) : False := by
  have h2 : 3988292384 = a / 2 ^^^ b / 2 := by rw [← h, ← Nat.xor_assoc, Nat.xor_self, Nat.zero_xor]
  have h3 : a / 2 ^^^ b / 2 < 2 ^ 31 := Nat.xor_lt_two_pow (by omega) (by omega)
  omega
theorem step_inj {a b : Nat} (ha : a < 4294967296) (hb : b < 4294967296) (h : step a = step b) : a = b := by
  by_cases oa : a % 2 = 1
  · by_cases ob : b % 2 = 1
    · rw [step_odd oa, step_odd ob] at h
      have := xor_cancel h; omega
    · rw [step_odd oa, step_even ob] at h
      exact (step_mixed ha hb h).elim
  · by_cases ob : b % 2 = 1
    · rw [step_even oa, step_odd ob] at h
      exact (step_mixed hb ha h.symm).elim
    · rw [step_even oa, step_even ob] at h; omega
theorem steps_inj {a b : Nat} (ha : a < 4294967296) (hb : b < 4294967296) : ∀ k, steps k a = steps k b → a = b
  | 0, h => h
  | k + 1, h => steps_inj ha hb k (step_inj (steps_lt ha k) (steps_lt hb k) h)
theorem byte_inj {a b : Nat} (ha : a < 4294967296) (hb : b < 4294967296) (c : UInt8) (h : byte a c = byte b c) : a = b := by
  have hc := c.toNat_lt
  exact xor_cancel (steps_inj (xor_lt32 ha (by omega)) (xor_lt32 hb (by omega)) 8 h)
theorem byte_inj_c {a : Nat} (ha : a < 4294967296) {c d : UInt8} (h : byte a c = byte a d) : c = d := by
  have hc := c.toNat_lt
  have hd := d.toNat_lt
  exact UInt8.toNat_inj.1 (xor_cancel_l (steps_inj (xor_lt32 ha (by omega)) (xor_lt32 ha (by omega)) 8 h))
theorem run_inj (l : List UInt8) : ∀ {a b : Nat}, a < 4294967296 → b < 4294967296 → run a l = run b l → a = b := by
  induction l with
  | nil => intro a b _ _ h; exact h
  | cons c l ih => intro a b ha hb h; exact byte_inj ha hb c (ih (byte_lt ha c) (byte_lt hb c) h)
theorem sum_turned {a b : List UInt8} {c d : UInt8} (h : c ≠ d) : sum (a ++ c :: b) ≠ sum (a ++ d :: b) := by
  intro e
  unfold sum at e
  have e2 := xor_cancel_l e
  rw [run_app, run_app] at e2
  have hr := run_lt a (n := 4294967295) (by omega)
  exact h (byte_inj_c hr (run_inj b (byte_lt hr c) (byte_lt hr d) e2))

/-- whatever four bytes stand in the sum's place -/
theorem take_form4 {h : List UInt8} {c : UInt8} {l r : List UInt8} (hh : h.length = 4) (hc : ¬ c.toNat = 0) (hl : l.length ≤ 262144) :
    take (h ++ c :: (Cd.putT l ++ r)) = if lit (sum (c :: Cd.putT l)) = h then ((c, l), 5 + (Cd.putT l).length, 0) else ((0, []), 0, 3) := by
  have ht := takeT_putT' l r 262144 (by omega) (by simpa using hl)
  have hlen : (h ++ c :: (Cd.putT l ++ r)).length = 5 + (Cd.putT l ++ r).length := by rw [List.length_append, hh, List.length_cons]; omega
  have h4 : (h ++ c :: (Cd.putT l ++ r)).take 4 = h := List.take_left' hh
  have h4d : (h ++ c :: (Cd.putT l ++ r)).drop 4 = c :: (Cd.putT l ++ r) := List.drop_left' hh
  have h5d : (h ++ c :: (Cd.putT l ++ r)).drop 5 = Cd.putT l ++ r := by
    have : (h ++ c :: (Cd.putT l ++ r)).drop 5 = ((h ++ c :: (Cd.putT l ++ r)).drop 4).drop 1 := by rw [List.drop_drop]
    rw [this, h4d]; rfl
  have hg : (h ++ c :: (Cd.putT l ++ r)).getD 4 0 = c := by
    rw [List.getD_eq_getElem?_getD, List.getElem?_append_right (by omega), hh]; rfl
  have h5 : 5 ≤ (h ++ c :: (Cd.putT l ++ r)).length := by omega
  have h0 : ¬ ((h ++ c :: (Cd.putT l ++ r)).getD 4 0).toNat = 0 := by rw [hg]; exact hc
  have hr : ((h ++ c :: (Cd.putT l ++ r)).drop 4).take ((Cd.putT l).length + 1) = c :: Cd.putT l := by rw [h4d, List.take_succ_cons, List.take_left' rfl]
  by_cases hs : lit (sum (c :: Cd.putT l)) = h
  · rw [take_ok (t := l) (n := (Cd.putT l).length) h5 h0 (by rw [h5d]; exact ht) (by rw [hr, h4]; exact hs), if_pos hs, hg]
  · rw [take_bad (t := l) (n := (Cd.putT l).length) h5 h0 (by rw [h5d]; exact ht) (by rw [hr, h4]; exact hs), if_neg hs]
/-- a frame of which one byte, in its sum, its kind or its load, is another one is refused -/
theorem take_turned {c : UInt8} {l : List UInt8} (hc : ¬ c.toNat = 0) (hl : l.length ≤ 262144) (p : Nat) (x : UInt8) (hp : p < (put c l).1.length) (hpl : p ≤ 4 ∨ (put c l).1.length - l.length ≤ p) (hx : x ≠ (put c l).1.getD p 0) :
    (take ((put c l).1.set p x)).2.2 = 3 := by
  rw [put_ok hc hl] at hp hpl hx ⊢
  simp only at hp hpl hx ⊢
  rw [litlen] at hp hpl
  rcases Nat.lt_trichotomy p 4 with h | h | h
  · have e : (lit (sum (c :: Cd.putT l)) ++ c :: Cd.putT l).set p x = (lit (sum (c :: Cd.putT l))).set p x ++ c :: (Cd.putT l ++ []) := by
      rw [List.set_append_left _ _ (by rw [lit_len]; exact h), List.append_nil]
    rw [e, take_form4 (by rw [List.length_set, lit_len]) hc hl, if_neg]
    intro he
    apply hx
    have := congrArg (fun z => z.getD p 0) he
    simp only [List.getD_eq_getElem?_getD] at this ⊢
    rw [List.getElem?_set_self (by rw [lit_len]; exact h)] at this
    rw [List.getElem?_append_left (by rw [lit_len]; exact h), this]; rfl
  · subst h
    have e : (lit (sum (c :: Cd.putT l)) ++ c :: Cd.putT l).set 4 x = lit (sum (c :: Cd.putT l)) ++ x :: (Cd.putT l ++ []) := by
      rw [List.set_append_right _ _ (by rw [lit_len]; omega), lit_len, List.append_nil]; rfl
    rw [lit4g] at hx
    rw [e]
    by_cases h0 : x.toNat = 0
    · rw [take_zero (by rw [litlen]; omega) (by rw [lit4g]; exact h0)]
    · rw [take_form h0 hl, if_neg]
      intro he
      have := lit_inj (sum_lt _) (sum_lt _) he
      exact sum_turned (a := []) (b := Cd.putT l) hx this
  · obtain ⟨q, hq⟩ : ∃ q, q = p - 5 - (Cd.putU l.length).length := ⟨_, rfl⟩
    have hpt : (Cd.putT l).length = (Cd.putU l.length).length + l.length := by rw [Cd.putT, List.length_append]
    have hql : q < l.length := by omega
    have hpq : p = 4 + 1 + ((Cd.putU l.length).length + q) := by omega
    have hlen : (l.set q x).length = l.length := List.length_set
    have e : (lit (sum (c :: Cd.putT l)) ++ c :: Cd.putT l).set p x = lit (sum (c :: Cd.putT l)) ++ c :: (Cd.putT (l.set q x) ++ []) := by
      rw [List.set_append_right _ _ (by rw [lit_len]; omega), lit_len, show p - 4 = ((Cd.putU l.length).length + q) + 1 from by omega, List.set_cons_succ, List.append_nil]
      unfold Cd.putT
      rw [hlen, List.set_append_right _ _ (by omega), show (Cd.putU l.length).length + q - (Cd.putU l.length).length = q from by omega]
    have hg : (lit (sum (c :: Cd.putT l)) ++ c :: Cd.putT l).getD p 0 = l[q] := by
      rw [List.getD_eq_getElem?_getD, List.getElem?_append_right (by rw [lit_len]; omega), lit_len, show p - 4 = ((Cd.putU l.length).length + q) + 1 from by omega, List.getElem?_cons_succ]
      unfold Cd.putT
      rw [List.getElem?_append_right (by omega), show (Cd.putU l.length).length + q - (Cd.putU l.length).length = q from by omega, List.getElem?_eq_getElem hql]; rfl
    rw [hg] at hx
    rw [e, take_form hc (by rw [hlen]; exact hl), if_neg]
    intro he
    have hs := lit_inj (sum_lt _) (sum_lt _) he
    have e1 : l.set q x = l.take q ++ x :: l.drop (q + 1) := List.set_eq_take_append_cons_drop ▸ (by rw [if_pos hql])
    have e2 : l = l.take q ++ l[q] :: l.drop (q + 1) := by rw [← List.drop_eq_getElem_cons hql, List.take_append_drop]
    have f1 : c :: Cd.putT (l.set q x) = (c :: (Cd.putU l.length ++ l.take q)) ++ x :: l.drop (q + 1) := by unfold Cd.putT; rw [hlen, e1]; simp
    have f2 : c :: Cd.putT l = (c :: (Cd.putU l.length ++ l.take q)) ++ l[q] :: l.drop (q + 1) := by
      unfold Cd.putT
      conv => lhs; rw [e2]
      simp
    rw [f1, f2] at hs
    exact sum_turned hx hs

/-! frames one behind the other -/
theorem allGo_ge (l : List UInt8) (p : Nat) : p ≤ (allGo l p).2 := by
  by_cases h : p < l.length ∧ (take (l.drop p)).2.2 = 0 ∧ 0 < (take (l.drop p)).2.1
  · rw [allGo_more h]
    have := allGo_ge l (p + (take (l.drop p)).2.1)
    simp only; omega
  · rw [allGo_stop h]; exact Nat.le_refl _
termination_by l.length - p
theorem allGo_put {pre r : List UInt8} {c : UInt8} {l : List UInt8} (hc : ¬ c.toNat = 0) (hl : l.length ≤ 262144) :
    allGo (pre ++ ((put c l).1 ++ r)) pre.length = ((pre.length, (c, l)) :: (allGo (pre ++ ((put c l).1 ++ r)) (pre.length + (put c l).1.length)).1, (allGo (pre ++ ((put c l).1 ++ r)) (pre.length + (put c l).1.length)).2) := by
  have ht : take ((pre ++ ((put c l).1 ++ r)).drop pre.length) = ((c, l), (put c l).1.length, 0) := by rw [List.drop_left' rfl]; exact take_put hc hl
  have hp : 5 ≤ (put c l).1.length := by rw [put_ok hc hl]; simp only; rw [litlen]; omega
  have := allGo_more (l := pre ++ ((put c l).1 ++ r)) (p := pre.length) (by rw [ht]; exact ⟨by rw [List.length_append, List.length_append]; omega, rfl, by show 0 < (put c l).1.length; omega⟩)
  rw [ht] at this
  exact this
end Fr
end Go.Proofs.Ytdaafledkloegaa

/-
  Plain mathematics of P4.1: a root's bytes tell the root.
-/
namespace Go.Proofs.Ytdaafledkloegaa
namespace Fi

theorem putU_inj {a b : Nat} {x y : Dat} (ha : a < 18446744073709551616) (hb : b < 18446744073709551616) (h : Cd.putU a ++ x = Cd.putU b ++ y) : a = b ∧ x = y := by
  have h1 := Cd.takeU_putU a x ha
  rw [h, Cd.takeU_putU b y hb] at h1
  obtain rfl : b = a := congrArg (·.1) h1
  exact ⟨rfl, List.append_cancel_left h⟩
theorem putT_inj {s t x y : Dat} (ha : s.length < 18446744073709551616) (hb : t.length < 18446744073709551616) (h : Cd.putT s ++ x = Cd.putT t ++ y) : s = t ∧ x = y := by
  unfold Cd.putT at h
  rw [List.append_assoc, List.append_assoc] at h
  obtain ⟨h1, h2⟩ := putU_inj ha hb h
  exact List.append_inj h2 h1
/-- a run that may be -/
def RunOk (p : Int × Nat) : Prop := 0 ≤ p.1 ∧ p.1 < 18446744073709551616 ∧ p.2 < 18446744073709551616
theorem runB_inj {p q : Int × Nat} {x y : Dat} (hp : RunOk p) (hq : RunOk q) (h : runB p ++ x = runB q ++ y) : p = q ∧ x = y := by
  unfold runB at h
  rw [List.append_assoc, List.append_assoc] at h
  obtain ⟨h1, h2⟩ := putU_inj (by have := hp.2.1; omega) (by have := hq.2.1; omega) h
  obtain ⟨h3, h4⟩ := putU_inj hp.2.2 hq.2.2 h2
  have := hp.1
  have := hq.1
  exact ⟨Prod.ext (by omega) h3, h4⟩
theorem runsB_inj : ∀ {L L' : List (Int × Nat)} {x y : Dat}, L.length = L'.length → (∀ p ∈ L, RunOk p) → (∀ p ∈ L', RunOk p) → L.flatMap runB ++ x = L'.flatMap runB ++ y → L = L' ∧ x = y
  | [], [], x, y, _, _, _, h => ⟨rfl, by simpa using h⟩
  | [], q :: r, _, _, hl, _, _, _ => by simp at hl
  | p :: r, [], _, _, hl, _, _, _ => by simp at hl
  | p :: r, q :: r', x, y, hl, hp, hq, h => by
    rw [List.flatMap_cons, List.flatMap_cons, List.append_assoc, List.append_assoc] at h
    obtain ⟨h1, h2⟩ := runB_inj (hp p (List.mem_cons_self ..)) (hq q (List.mem_cons_self ..)) h
    obtain ⟨h3, h4⟩ := runsB_inj (by simpa using hl) (fun z hz => hp z (List.mem_cons_of_mem _ hz)) (fun z hz => hq z (List.mem_cons_of_mem _ hz)) h2
    exact ⟨by rw [h1, h3], h4⟩
theorem runs_ok (l : List Int) (h : ∀ b ∈ l, 0 ≤ b ∧ b < 18446744073709551616) (hl : l.length < 18446744073709551615) : ∀ p ∈ runs l, RunOk p := by
  induction hn : l.length using Nat.strongRecOn generalizing l with
  | _ n ih =>
    match l, hn with
    | [], _ => intro p hp; rw [runs] at hp; cases hp
    | y :: r, hn =>
      rw [runs_cons]
      intro p hp
      rcases List.mem_cons.1 hp with rfl | hp
      · have := runLen_le r y
        have h0 := h y (List.mem_cons_self ..)
        simp at hl
        exact ⟨h0.1, h0.2, by simp only; omega⟩
      · simp at hn hl
        exact ih (r.drop (runLen y r)).length (by simp; omega) _ (fun b hb => h b (List.mem_cons_of_mem _ (List.mem_of_mem_drop hb))) (by simp; omega) rfl p hp
/-- a file that may be in a root -/
structure FOk (f : File) : Prop where
  name : f.name.length ≤ 32
  size : 0 ≤ f.size ∧ f.size < 18446744073709551616
  blocks : ∀ b ∈ f.blocks, 0 ≤ b ∧ b < 18446744073709551616
  many : f.blocks.length < 18446744073709551615
theorem fileBytes_inj {f g : File} {x y : Dat} (hf : FOk f) (hg : FOk g) (h : fileBytes f ++ x = fileBytes g ++ y) : f = g ∧ x = y := by
  unfold fileBytes runBytes at h
  simp only [List.append_assoc] at h
  obtain ⟨h1, h2⟩ := putT_inj (by have := hf.name; omega) (by have := hg.name; omega) h
  obtain ⟨h3, h4⟩ := putU_inj (by have := hf.size; omega) (by have := hg.size; omega) h2
  have rf := runs_len f.blocks
  have rg := runs_len g.blocks
  have mf := hf.many
  have mg := hg.many
  obtain ⟨h5, h6⟩ := putU_inj (by omega) (by omega) h4
  obtain ⟨h7, h8⟩ := runsB_inj h5 (runs_ok _ hf.blocks hf.many) (runs_ok _ hg.blocks hg.many) h6
  have h9 : f.blocks = g.blocks := by rw [← runs_expand f.blocks, h7, runs_expand]
  obtain ⟨fn, fs, fb⟩ := f
  obtain ⟨gn, gs, gb⟩ := g
  simp only at h1 h3 h9
  have s1 := hf.size
  have s2 := hg.size
  simp only at s1 s2
  obtain rfl : fs = gs := by omega
  exact ⟨by rw [h1, h9], h8⟩
theorem files_inj : ∀ {L L' : List File} {x y : Dat}, L.length = L'.length → (∀ f ∈ L, FOk f) → (∀ f ∈ L', FOk f) → L.flatMap fileBytes ++ x = L'.flatMap fileBytes ++ y → L = L' ∧ x = y
  | [], [], x, y, _, _, _, h => ⟨rfl, by simpa using h⟩
  | [], q :: r, _, _, hl, _, _, _ => by simp at hl
  | p :: r, [], _, _, hl, _, _, _ => by simp at hl
  | p :: r, q :: r', x, y, hl, hp, hq, h => by
    rw [List.flatMap_cons, List.flatMap_cons, List.append_assoc, List.append_assoc] at h
    obtain ⟨h1, h2⟩ := fileBytes_inj (hp p (List.mem_cons_self ..)) (hq q (List.mem_cons_self ..)) h
    obtain ⟨h3, h4⟩ := files_inj (by simpa using hl) (fun z hz => hp z (List.mem_cons_of_mem _ hz)) (fun z hz => hq z (List.mem_cons_of_mem _ hz)) h2
    exact ⟨by rw [h1, h3], h4⟩
/-- a root that may be -/
structure ROk (r : Root) : Prop where
  gen : 1 ≤ r.gen ∧ r.gen ≤ 4611686018427387904
  many : r.files.length ≤ 64
  files : ∀ f ∈ r.files, FOk f
theorem rootLoad_inj {r q : Root} {x y : Dat} (hr : ROk r) (hq : ROk q) (h : rootLoad r ++ x = rootLoad q ++ y) : r = q ∧ x = y := by
  unfold rootLoad at h
  simp only [List.append_assoc] at h
  have := hr.gen
  have := hq.gen
  have := hr.many
  have := hq.many
  obtain ⟨h1, h2⟩ := putU_inj (by omega) (by omega) h
  obtain ⟨h3, h4⟩ := putU_inj (by omega) (by omega) h2
  obtain ⟨h5, h6⟩ := files_inj h3 hr.files hq.files h4
  obtain ⟨rg, rf⟩ := r
  obtain ⟨qg, qf⟩ := q
  simp only at h1 h5
  exact ⟨by rw [h1, h5], h6⟩
/-- the root with whose bytes a text begins is one alone -/
theorem isRoot_one {l : Dat} {n : Int} {r q : Root} (hr : ROk r) (hq : ROk q) (h1 : IsRoot l n r) (h2 : IsRoot l n q) (lr : (rootLoad r).length ≤ 262144) (lq : (rootLoad q).length ≤ 262144) : r = q := by
  obtain ⟨e1, t1, p1⟩ := h1
  obtain ⟨e2, t2, p2⟩ := h2
  have f1 := Fr.take_put (c := 1) (l := rootLoad r) (r := t1) (by decide) lr
  have f2 := Fr.take_put (c := 1) (l := rootLoad q) (r := t2) (by decide) lq
  have x1 : (encode r n).1 = (Fr.put 1 (rootLoad r)).1 := by
    unfold encode at e1 ⊢
    split at e1
    · rename_i h
      rw [if_pos h]
      split at e1
      · rename_i h'; rw [if_pos h']
      · cases e1
    · cases e1
  have x2 : (encode q n).1 = (Fr.put 1 (rootLoad q)).1 := by
    unfold encode at e2 ⊢
    split at e2
    · rename_i h
      rw [if_pos h]
      split at e2
      · rename_i h'; rw [if_pos h']
      · cases e2
    · cases e2
  rw [← x1, p1] at f1
  rw [← x2, p2, f1] at f2
  have h3 : rootLoad r = rootLoad q := congrArg (fun z => z.1.2) f2
  exact (rootLoad_inj (x := []) (y := []) hr hq (by rw [h3])).1
theorem put_load {c : UInt8} {l : Dat} (h : (Fr.put c l).2 = 0) : l.length ≤ 262144 := by
  by_cases h1 : 262144 < l.length
  · rw [Fr.put_long h1] at h; cases h
  · omega
theorem encode_ok {r : Root} {n : Int} (h : (encode r n).2 = 0) : may r (min n 16384) = true ∧ (Fr.put 1 (rootLoad r)).2 = 0 ∧ (Fr.put 1 (rootLoad r)).1.length ≤ 3840 ∧ (encode r n).1 = (Fr.put 1 (rootLoad r)).1 := by
  unfold encode at h ⊢
  split at h
  · rename_i h1
    rw [if_pos h1]
    split at h
    · rename_i h2
      rw [if_pos h2]
      exact ⟨h1, h2.1, h2.2, rfl⟩
    · cases h
  · cases h
theorem rok_of_may {r : Root} {m : Int} (hm : m ≤ 16384) (h : may r m = true) : ROk r := by
  obtain ⟨g1, g2, g3, hf⟩ := may_in h
  have hgo : mayGo m r.files none [] = true := by
    unfold may at h
    simp only [Bool.and_eq_true] at h
    exact h.2
  refine ⟨⟨g1, g2⟩, g3, fun f hff => ?_⟩
  obtain ⟨k1, k2, k3⟩ := hf f hff
  obtain ⟨l1, l2⟩ := mayGo_len hm hgo List.nodup_nil (fun b hb => by cases hb) f hff
  refine ⟨k3, ⟨k2, ?_⟩, fun b hb => by have := k1 b hb; omega, by omega⟩
  unfold takes at l2
  omega
/-- THE ROOT WITH WHOSE BYTES A TEXT BEGINS IS ONE ALONE -/
theorem isRoot_same {l : Dat} {n : Int} {r q : Root} (h1 : IsRoot l n r) (h2 : IsRoot l n q) : r = q := by
  obtain ⟨a1, b1, _, _⟩ := encode_ok h1.1
  obtain ⟨a2, b2, _, _⟩ := encode_ok h2.1
  exact isRoot_one (rok_of_may (Int.min_le_right _ _) a1) (rok_of_may (Int.min_le_right _ _) a2) h1 h2 (put_load b1) (put_load b2)
theorem decode_iff {l : Dat} {n : Int} {r : Root} : decode l n = some r ↔ IsRoot l n r := by
  unfold decode
  constructor
  · intro h
    split at h
    · rename_i hx
      rw [← Option.some.inj h]
      exact hx.choose_spec
    · cases h
  · intro h
    have hx : ∃ r, IsRoot l n r := ⟨r, h⟩
    rw [dif_pos hx]
    exact congrArg some (isRoot_same hx.choose_spec h)
theorem decode_none {l : Dat} {n : Int} : decode l n = none ↔ ∀ r, ¬ IsRoot l n r := by
  unfold decode
  constructor
  · intro h r hr
    rw [dif_pos ⟨r, hr⟩] at h
    cases h
  · intro h
    rw [dif_neg (fun ⟨r, hr⟩ => h r hr)]
theorem decode_encode {r : Root} {n : Int} {rest : Dat} (h : (encode r n).2 = 0) : decode ((encode r n).1 ++ rest) n = some r := decode_iff.2 ⟨h, rest, rfl⟩
end Fi
end Go.Proofs.Ytdaafledkloegaa

/-
  Ranges over a function whose iterator has state of its own, in cells and in loops within it: what an iterator owes, what its caller owes.
  The blocks that are private to the iterator (and to the loop's book-keeping) are told by name: a set R that grows.
-/
namespace Go.Proofs.Ytdaafledkloegaa
open Go.RowKit
set_option linter.unusedVariables false
namespace Sq

abbrev Blocks := Nat → Prop

/-- of the blocks of T that lay none has turned -/
structure Kept (T : Blocks) (w w' : World) : Prop where
  os : w'.os = w.os
  tape : w'.tape = w.tape
  output : w'.output = w.output
  size : w.heap.size ≤ w'.heap.size
  block : ∀ k, T k → k < w.heap.size → w'.heap[k]? = w.heap[k]?

theorem Kept.refl (T : Blocks) (w : World) : Kept T w w := ⟨rfl, rfl, rfl, Nat.le_refl _, fun _ _ _ => rfl⟩
theorem Kept.trans {T : Blocks} {a b c : World} (h : Kept T a b) (k : Kept T b c) : Kept T a c :=
  ⟨k.os.trans h.os, k.tape.trans h.tape, k.output.trans h.output, Nat.le_trans h.size k.size, fun i hi hl => (k.block i hi (Nat.lt_of_lt_of_le hl h.size)).trans (h.block i hi hl)⟩
theorem Kept.less {T T' : Blocks} {a b : World} (h : Kept T a b) (hT : ∀ k, T' k → k < a.heap.size → T k) : Kept T' a b :=
  ⟨h.os, h.tape, h.output, h.size, fun i hi hl => h.block i (hT i hi hl) hl⟩
theorem Kept.alloc (T : Blocks) (w : World) (o : Obj) : Kept T w (w.alloc o) :=
  ⟨rfl, rfl, rfl, by simp, fun k _ hl => Below.heap_alloc _ _ _ hl⟩
theorem Kept.drew (T : Blocks) (w : World) : Kept T w w.drew := ⟨rfl, rfl, rfl, Nat.le_refl _, fun _ _ _ => rfl⟩
theorem Kept.drewN (T : Blocks) (w : World) (n : Nat) : Kept T w (w.drewN n) := ⟨rfl, rfl, rfl, Nat.le_refl _, fun _ _ _ => rfl⟩
theorem Kept.setCell {T : Blocks} (w : World) {p : Addr} (v : Value) (h : ¬ T p.block) : Kept T w (w.setCell p v) :=
  ⟨rfl, rfl, rfl, by simp [World.setCell], fun k hk _ => Below.heap_setCell _ _ _ _ (fun e => h (e ▸ hk))⟩
theorem Kept.putObj {T : Blocks} (w : World) {l : Nat} (o : Obj) (h : ¬ T l) : Kept T w (w.putObj l o) :=
  ⟨rfl, rfl, rfl, by simp, fun k hk _ => World.putObj_heap_other (fun e => h (e ▸ hk))⟩
theorem Kept.grown {T : Blocks} {w w' : World} {row : Option Nat} (hg : w.grownBy w' row) (h : ∀ r, row = some r → ¬ T r) : Kept T w w' :=
  ⟨hg.os, hg.tape, hg.output, hg.size, fun k hk hl => hg.block k hl (fun e => h k e.symm hk)⟩
theorem Kept.of_below {T : Blocks} {w w' : World} (h : Below w.heap.size w w') : Kept T w w' :=
  ⟨h.os, h.tape, h.output, h.size, fun k _ hl => h.block k hl⟩
theorem Kept.below {T : Blocks} {w w' : World} {B : Nat} (h : Kept T w w') (hT : ∀ k, k < B → T k) (hB : B ≤ w.heap.size) : Below B w w' :=
  ⟨h.os, h.tape, h.output, h.size, fun k hk => h.block k (hT k hk) (Nat.lt_of_lt_of_le hk hB)⟩
theorem Kept.cell {T : Blocks} {w w' : World} (h : Kept T w w') {p : Addr} {v : Value} (hT : T p.block) (hc : w.cell? p = some v) : w'.cell? p = some v := by
  have hl : p.block < w.heap.size := by
    obtain ⟨o, ho, _⟩ := cells_of_cell hc
    exact (Array.getElem?_eq_some_iff.1 ho).1
  rw [← hc]
  exact World.cell?_of_block (w := w) (h.block _ hT hl)
theorem Kept.boxed {T : Blocks} {w w' : World} (h : Kept T w w') {B : Nat} {t : TypeId} {v : Value} (hT : T B) (hb : Boxed w B t v) : Boxed w' B t v := (h.block B hT hb.lt).trans hb

/-- A STEP OF THE ITERATOR's OWN: of what lay only blocks of R have turned; R' is R and new blocks. -/
structure Step (R R' : Blocks) (w w' : World) : Prop where
  kept : Kept (fun k => ¬ R k) w w'
  sub : ∀ k, R k → R' k
  new : ∀ k, R' k → R k ∨ w.heap.size ≤ k

theorem Step.refl (R : Blocks) (w : World) : Step R R w w := ⟨Kept.refl _ _, fun _ h => h, fun _ h => .inl h⟩
theorem Step.alloc (R : Blocks) (w : World) (o : Obj) : Step R (fun k => R k ∨ k = w.heap.size) w (w.alloc o) :=
  ⟨Kept.alloc _ _ _, fun _ h => .inl h, fun _ h => h.elim .inl (fun e => .inr (Nat.le_of_eq e.symm))⟩
theorem Step.alloc0 (R : Blocks) (w : World) (o : Obj) : Step R R w (w.alloc o) := ⟨Kept.alloc _ _ _, fun _ h => h, fun _ h => .inl h⟩
theorem Step.below {R : Blocks} {w w' : World} (h : Below w.heap.size w w') : Step R R w w' := ⟨Kept.of_below h, fun _ h => h, fun _ h => .inl h⟩
theorem Step.setCell {R : Blocks} (w : World) {p : Addr} (v : Value) (h : R p.block) : Step R R w (w.setCell p v) := ⟨Kept.setCell _ _ (fun hn => hn h), fun _ h => h, fun _ h => .inl h⟩
theorem Step.putObj {R : Blocks} (w : World) {l : Nat} (o : Obj) (h : R l) : Step R R w (w.putObj l o) := ⟨Kept.putObj _ _ (fun hn => hn h), fun _ h => h, fun _ h => .inl h⟩
theorem Step.drew (R : Blocks) (w : World) : Step R R w w.drew := ⟨Kept.drew _ _, fun _ h => h, fun _ h => .inl h⟩
theorem Step.trans {R R' R'' : Blocks} {a b c : World} (h : Step R R' a b) (k : Step R' R'' b c) : Step R R'' a c :=
  ⟨⟨k.kept.os.trans h.kept.os, k.kept.tape.trans h.kept.tape, k.kept.output.trans h.kept.output, Nat.le_trans h.kept.size k.kept.size, fun i hi hl =>
      (k.kept.block i (fun hr => (h.new i hr).elim hi (fun h2 => by omega)) (Nat.lt_of_lt_of_le hl h.kept.size)).trans (h.kept.block i hi hl)⟩,
    fun i hi => k.sub i (h.sub i hi), fun i hi => (k.new i hi).elim (h.new i) (fun hl => .inr (Nat.le_trans h.kept.size hl))⟩

/-- what the caller says abides every step of the iterator's own -/
def Steady {β : Type} (J : Blocks → β → World → Prop) : Prop := ∀ R R' s W W', J R s W → Step R R' W W' → J R' s W'

theorem Steady.and {β : Type} {J J' : Blocks → β → World → Prop} (h : Steady J) (h' : Steady J') : Steady (fun R s W => J R s W ∧ J' R s W) :=
  fun R R' s W W' hs st => ⟨h R R' s W W' hs.1 st, h' R R' s W W' hs.2 st⟩
theorem Steady.ex {β γ : Type} {J : γ → Blocks → β → World → Prop} (h : ∀ c, Steady (J c)) : Steady (fun R s W => ∃ c, J c R s W) :=
  fun R R' s W W' ⟨c, hs⟩ st => ⟨c, h c R R' s W W' hs st⟩
theorem Steady.pure {β : Type} (p : β → Prop) : Steady (fun _ s (_ : World) => p s) := fun _ _ _ _ _ hs _ => hs
theorem Steady.no {β : Type} : Steady (fun _ (_ : β) (_ : World) => False) := fun _ _ _ _ _ hs _ => hs
theorem step_not {R R' : Blocks} {W W' : World} (st : Step R R' W W') {b : Nat} (hl : b < W.heap.size) (hn : ¬ R b) : ¬ R' b :=
  fun h => (st.new b h).elim hn (fun h2 => by omega)
theorem step_obj {R R' : Blocks} {W W' : World} (st : Step R R' W W') {b : Nat} {o : Obj} (ho : W.heap[b]? = some o) (hn : ¬ R b) : W'.heap[b]? = some o ∧ ¬ R' b :=
  ⟨(st.kept.block b hn (Array.getElem?_eq_some_iff.1 ho).1).trans ho, step_not st (Array.getElem?_eq_some_iff.1 ho).1 hn⟩
theorem Steady.obj {β : Type} (b : Nat) (o : β → Obj) : Steady (fun R s W => W.heap[b]? = some (o s) ∧ ¬ R b) := fun _ _ _ _ _ hs st => step_obj st hs.1 hs.2
theorem Steady.box {β : Type} (b : Nat) (t : TypeId) (v : β → Value) : Steady (fun R s W => Boxed W b t (v s) ∧ ¬ R b) := fun _ _ _ _ _ hs st => step_obj st hs.1 hs.2
theorem Steady.kept {β : Type} (T : Blocks) (w : World) : Steady (fun R (_ : β) W => Kept T w W ∧ ∀ k, T k → k < w.heap.size → ¬ R k) := fun R R' s W W' hs st =>
  ⟨⟨st.kept.os.trans hs.1.os, st.kept.tape.trans hs.1.tape, st.kept.output.trans hs.1.output, Nat.le_trans hs.1.size st.kept.size, fun k hk hl =>
      (st.kept.block k (hs.2 k hk hl) (Nat.lt_of_lt_of_le hl hs.1.size)).trans (hs.1.block k hk hl)⟩,
    fun k hk hl hr => step_not st (Nat.lt_of_lt_of_le hl hs.1.size) (hs.2 k hk hl) hr⟩
theorem Steady.row {β : Type} (n₀ : Nat) (e : TypeId) (size : Nat) (v : β → Value) (n : β → Nat) (f : β → List Value) :
    Steady (fun R s W => W.ownsRow n₀ e size (v s) (n s) (f s) ∧ ∀ g, (v s).ownBlock = some g → ¬ R g) := by
  rintro R R' s W W' ⟨hs, hn⟩ st
  rcases hs with ⟨h0, h1 | ⟨g, cap, cur, h1, h2, h3, h4⟩⟩
  · exact ⟨⟨h0, .inl h1⟩, fun g hg => by rw [h1.1] at hg; simp [Value.ownBlock] at hg⟩
  · have hg : ¬ R g := hn g (by rw [h1]; rfl)
    obtain ⟨k1, k2⟩ := step_obj st h3 hg
    refine ⟨⟨h0, .inr ⟨g, cap, cur, h1, h2, k1, h4⟩⟩, fun g' hg' => ?_⟩
    rw [h1] at hg'
    obtain rfl : g = g' := by simpa [Value.ownBlock] using hg'
    exact k2

theorem Step.or {R R' : Blocks} {X Y : World} (M : Blocks) (st : Step R R' X Y) : Step (fun k => R k ∨ M k) (fun k => R' k ∨ M k) X Y :=
  ⟨st.kept.less fun k hk _ h => hk (.inl h), fun k h => h.elim (fun h => .inl (st.sub k h)) .inr, fun k h => h.elim (fun h => (st.new k h).elim (fun h => .inl (.inl h)) .inr) (fun h => .inl (.inr h))⟩
theorem Steady.or {β γ : Type} {J : Blocks → β → World → Prop} (h : Steady J) (M : Blocks) (f : γ → β) : Steady (fun R s W => J (fun k => R k ∨ M k) (f s) W) :=
  fun _ _ _ _ _ hs st => h _ _ _ _ _ hs (st.or M)

theorem room_none {F : Fence} (hd : F.depth = none) (k : Nat) : F.room k := fun d h => by rw [hd] at h; cases h
/-- where no depth is asked the figures are all one -/
theorem anyDepth {F : Fence} (hd : F.depth = none) {m : Nat} (m' : Nat) {P : Program} {l : Nat} {args : Array Value} {W : World} {R : Ending → World → Prop} (h : YieldAt F m P l args W R) : YieldAt F m' P l args W R := by
  obtain ⟨fn, tmps, assign, body, hy, hR⟩ := h
  exact ⟨fn, tmps, assign, body, hy, hR.1, fun c cs _ => hR.2 c cs (room_none hd _)⟩

theorem round_in {F : Fence} {m : Nat} {P : Program} {l f : Nat} {tmps : Array Value} {assign body : Code} {w : World} {R : Ending → World → Prop} (lr : Nat) (h : RoundIn F m P l f tmps assign body w R) : RoundIn (F.inRound lr) m P l f tmps assign body w R := h

/-- WHAT AN ITERATOR OWES: called at whatever loop's yield, it hands on a row's elements one by one: S of all, Sp of each beginning. T: the blocks that it reads and does not write. -/
def SeqC {α : Type} (F : Fence) (n : Nat) (P : Program) (g : Nat) (lb : Array Value) (encs : α → Array Value) (T : Blocks) (S Sp : List α → Prop) (w : World) : Prop :=
  ∀ (l : Nat) (J Jx : Blocks → List α → World → Prop) (W : World), Kept T w W → Steady J → Steady Jx →
    (∀ R pre x W1, J R pre W1 → (∀ k, R k → W.heap.size ≤ k ∧ k < W1.heap.size) → Sp (pre ++ [x]) → YieldAt F (n - 1) P l (encs x) W1 fun e W' =>
      (e = .returned (.bool true) ∧ J R (pre ++ [x]) W' ∧ Kept (fun k => R k ∨ T k) W1 W') ∨ (e = .returned (.bool false) ∧ Jx R (pre ++ [x]) W' ∧ Kept (fun k => R k ∨ T k) W1 W')) →
    J (fun _ => False) [] W →
    CallsIn F n P g (#[.func (.yield l) #[] #[]] ++ lb) W fun e W' => (∃ v, e = .returned v) ∧ ((∃ xs R, S xs ∧ J R xs W') ∨ (∃ pre R, Sp pre ∧ Jx R pre W'))

/-- HOW THE BODY OF A ROUND MAY BE LEFT. -/
def post {α : Type} (T : Blocks) (I : Blocks → List α → World → Prop) (Ix : Code → Blocks → List α → World → Prop) (R : Blocks) (xs : List α) (W : World) : Exit → Act → World → Prop
  | .normal, _, W' => Kept (fun k => R k ∨ T k) W W' ∧ I R xs W'
  | .ret, _, W' => Kept (fun k => R k ∨ T k) W W' ∧ Ix .ret R xs W'
  | .exit id, _, W' => Kept (fun k => R k ∨ T k) W W' ∧ Ix (.exit id) R xs W'
  | .goto t, _, W' => Kept (fun k => R k ∨ T k) W W' ∧ Ix (.goto t) R xs W'
  | .panic _, _, _ => False
  | .outgrown, _, _ => False

variable {F : Fence} {n : Nat} {P : Program}

/-- THE STATEMENT 'for .. := range seq { body }', outside of every other such loop's round. -/
theorem wp_range {α : Type} {g : Operand} {ps : Array Tmp} {assign body : Code} {Q : Exit → Act → World → Prop} {a : Act} {w : World}
    (hro : F.round = none) (h1 : 1 ≤ n) {gf : Nat} {lb : Array Value} (hg : a.eval g = .func (.func gf) #[] lb) (hFg : F.fn gf) (eg : ∀ args w, (callFunc gf args).run P w = .ok (.enter gf args) w)
    {encs : α → Array Value} {T : Blocks} {S Sp : List α → Prop} (hseq : SeqC F (n - 1) P gf lb encs T S Sp w) (hT : ∀ k, T k → k < w.heap.size) (hps : ∀ x, (encs x).size = ps.size)
    (I : Blocks → List α → World → Prop) (Ix : Code → Blocks → List α → World → Prop) (Ia : Act → α → Blocks → List α → World → Prop)
    (hI : Steady I) (hIx : ∀ c, Steady (Ix c)) (hIa : ∀ a' x, Steady (Ia a' x)) (h0 : I (fun _ => False) [] w)
    (hassign : ∀ (l : Nat) (R : Blocks) (pre : List α) (x : α) (W : World), (∀ k, R k → w.heap.size ≤ k ∧ k < W.heap.size) → Sp (pre ++ [x]) → I R pre W →
      assign.wpIn (F.inRound l) (n - 1 - 1) P (Exit.then (fun a' W' => Kept (fun k => R k ∨ T k) W W' ∧ Ia a' x R pre W') (fun _ _ _ => False)) { tmps := (ps.zip (encs x)).foldl (fun t (p, v) => t.setIfInBounds p v) a.tmps, defers := [] } W)
    (hbody : ∀ (l : Nat) (R : Blocks) (pre : List α) (x : α) (a' : Act) (W : World), R l → (∃ r, W.heap[l]? = some (.loop r)) → (∀ k, R k → w.heap.size ≤ k ∧ k < W.heap.size) → Sp (pre ++ [x]) → Ia a' x R pre W →
      body.wpIn (F.inRound l) (n - 1 - 1) P (post T I Ix R (pre ++ [x]) W) a' W)
    (hdone : ∀ (D : Nat) (R : Blocks) (xs : List α) (W : World), w.heap.size ≤ D → R D → S xs → I R xs W → W.heap[D]? = some (.deferred (some [])) → Q .normal { a with defers := { target := .collected D, args := #[] } :: a.defers } W)
    (hstop : ∀ (D : Nat) (R : Blocks) (c : Code) (pre : List α) (W : World), w.heap.size ≤ D → R D → Sp pre → Ix c R pre W → W.heap[D]? = some (.deferred (some [])) → c.wpIn F n P Q { a with defers := { target := .collected D, args := #[] } :: a.defers } W) :
    (Code.rangeFunc g ps assign body).wpIn F n P Q a w := by
  refine wpIn_rangeFunc ?_
  intro fn hfn
  rw [hro]
  obtain ⟨rec, hrec⟩ : ∃ rec : LoopState → Option Code → Loop, rec = fun st pe => { state := st, pending := pe, fn, tmps := a.tmps, params := ps, assign, body, defers := w.heap.size } := ⟨_, rfl⟩
  obtain ⟨D, hD⟩ : ∃ D, D = w.heap.size := ⟨_, rfl⟩
  obtain ⟨W1, hW1⟩ : ∃ W1, (w.alloc (.deferred (some []))).alloc (.loop (rec .ready none)) = W1 := ⟨_, rfl⟩
  have hsz1 : W1.heap.size = D + 2 := by rw [← hW1]; simp; omega
  -- the blocks of the book-keeping beside those of the iterator's
  let R2 : Blocks → Blocks := fun R k => R k ∨ (k = D ∨ k = D + 1)
  have st0 : Step (fun _ => False) (R2 fun _ => False) w W1 := by
    rw [← hW1]
    refine ⟨(Kept.alloc _ _ _).trans (Kept.alloc _ _ _), fun _ h => h.elim, fun k h => ?_⟩
    rcases h with h | h | h
    · exact h.elim
    · exact .inr (by omega)
    · exact .inr (by omega)
  have hL1 : W1.heap[D + 1]? = some (.loop (rec .ready none)) := by
    rw [← hW1]; have := World.alloc_heap_new (w.alloc (.deferred (some []))) (.loop (rec .ready none)); rw [World.size_alloc, ← hD] at this; exact this
  have hK1 : W1.heap[D]? = some (.deferred (some [])) := by
    rw [← hW1, hD]; exact (Below.heap_alloc _ _ _ (by simp)).trans (World.alloc_heap_new w _)
  have hkT : Kept T w W1 := by rw [← hW1]; exact (Kept.alloc _ _ _).trans (Kept.alloc _ _ _)
  have step2 : ∀ {R R' : Blocks} {X Y : World}, Step R R' X Y → Step (R2 R) (R2 R') X Y := fun st =>
    ⟨st.kept.less fun k hk _ h => hk (.inl h), fun k h => h.elim (fun h => .inl (st.sub k h)) .inr, fun k h => h.elim (fun h => (st.new k h).elim (fun h => .inl (.inl h)) .inr) (fun h => .inl (.inr h))⟩
  refine ⟨D + 1, [{ target := .collected D, args := #[] }], W1, { target := .fn (.func gf) lb, args := #[.func (.yield (D + 1)) #[] #[]] }, W1, gf,
    #[.func (.yield (D + 1)) #[] #[]] ++ lb, W1, ?_, ?_, ?_, ?_, fun _ => h1, ?_⟩
  · rw [← hW1, hrec, hD]; exact run_enterLoop_outer _ _ _ _ _
  · simp only [resolve, hg]
    simp [go_sem]
  · intro f' hf'; simp [Target.leads] at hf'; subst hf'; exact hFg
  · simp [invoke, go_sem, eg]
  · refine (hseq (D + 1)
      (fun R pre W => I (R2 R) pre W ∧ (W.heap[D + 1]? = some (.loop (rec .ready none)) ∧ ¬ R (D + 1)) ∧ (W.heap[D]? = some (.deferred (some [])) ∧ ¬ R D))
      (fun R pre W => ∃ c, Ix c (R2 R) pre W ∧ (W.heap[D + 1]? = some (.loop (rec .done (some c))) ∧ ¬ R (D + 1)) ∧ (W.heap[D]? = some (.deferred (some [])) ∧ ¬ R D))
      W1 hkT
      (fun R R' s X Y hs st => ⟨hI _ _ _ _ _ hs.1 (step2 st), step_obj st hs.2.1.1 hs.2.1.2, step_obj st hs.2.2.1 hs.2.2.2⟩)
      (fun R R' s X Y ⟨c, hs⟩ st => ⟨c, hIx c _ _ _ _ _ hs.1 (step2 st), step_obj st hs.2.1.1 hs.2.1.2, step_obj st hs.2.2.1 hs.2.2.2⟩)
      ?_ ⟨hI _ _ _ _ _ h0 st0, ⟨hL1, fun h => h⟩, ⟨hK1, fun h => h⟩⟩).mono ?_
    · -- one round
      rintro R pre x W ⟨hi, ⟨hl, hnl⟩, ⟨hk, hnk⟩⟩ hbd hsp
      have hlt : D + 1 < W.heap.size := (Array.getElem?_eq_some_iff.1 hl).1
      have hbd2 : ∀ (X : World), W.heap.size ≤ X.heap.size → ∀ k, R2 R k → w.heap.size ≤ k ∧ k < X.heap.size := fun X hX k h => by
        rcases h with h | h | h
        · have := hbd k h; omega
        · omega
        · omega
      have hy := run_yield (P := P) (args := encs x) hl (by rw [hrec]; exact hps x)
      rw [hrec] at hy
      refine ⟨fn, _, assign, body, hy, roundIn_of_wpIn hfn ?_⟩
      clear hy
      refine wpIn_mono (hassign (D + 1) (R2 R) pre x W (hbd2 W (Nat.le_refl _)) hsp hi) ?_
      rintro e a' Wa hpost
      cases e with
      | normal =>
        obtain ⟨hka, hia⟩ := hpost
        have hla : Wa.heap[D + 1]? = some (.loop (rec .ready none)) := (hka.block (D + 1) (.inl (.inr (.inr rfl))) hlt).trans hl
        have hka2 : Wa.heap[D]? = some (.deferred (some [])) := (hka.block D (.inl (.inr (.inl rfl))) (by omega)).trans hk
        have hlta : D + 1 < Wa.heap.size := (Array.getElem?_eq_some_iff.1 hla).1
        refine ⟨_, run_beginRound hla (by rw [hrec]), ?_⟩
        obtain ⟨Wb, hWb⟩ : ∃ Wb, Wa.putObj (D + 1) (.loop { rec .ready none with state := .busy }) = Wb := ⟨_, rfl⟩
        have hlb : Wb.heap[D + 1]? = some (.loop { rec .ready none with state := .busy }) := by rw [← hWb]; exact World.putObj_heap_same hlta
        have hkb : Wb.heap[D]? = some (.deferred (some [])) := by rw [← hWb]; exact (World.putObj_heap_other (by omega)).trans hka2
        have hszb : Wb.heap.size = Wa.heap.size := by rw [← hWb]; simp
        have keptb : ∀ T' : Blocks, ¬ T' (D + 1) → Kept T' Wa Wb := fun T' h => by rw [← hWb]; exact Kept.putObj _ _ h
        have hib := hIa a' x _ _ _ _ _ hia (show Step (R2 R) (R2 R) Wa Wb by rw [← hWb]; exact Step.putObj (R := R2 R) Wa _ (.inr (.inr rfl)))
        have hbody' := hbody (D + 1) (R2 R) pre x a' Wb (.inr (.inr rfl)) ⟨_, hlb⟩ (hbd2 Wb (by rw [hszb]; exact hka.size)) hsp hib
        show Code.wpIn _ _ _ _ _ _ _
        rw [hWb]
        refine wpIn_mono hbody' ?_
        have hnT : ¬ (fun k => R k ∨ T k) (D + 1) := fun h => h.elim hnl (fun h => by have := hT _ h; omega)
        have fin : ∀ (jump : Option Code) (W3 : World), Kept (fun k => R2 R k ∨ T k) Wb W3 →
            (Instr.endRound (D + 1) jump).run P W3 = .ok (.bool jump.isNone) (W3.putObj (D + 1) (.loop (rec (if jump.isNone then .ready else .done) jump))) ∧
            (W3.putObj (D + 1) (.loop (rec (if jump.isNone then .ready else .done) jump))).heap[D + 1]? = some (.loop (rec (if jump.isNone then .ready else .done) jump)) ∧
            (W3.putObj (D + 1) (.loop (rec (if jump.isNone then .ready else .done) jump))).heap[D]? = some (.deferred (some [])) ∧
            Kept (fun k => R k ∨ T k) W (W3.putObj (D + 1) (.loop (rec (if jump.isNone then .ready else .done) jump))) := fun jump W3 hk3 => by
          have hl3 := (hk3.block (D + 1) (.inl (.inr (.inr rfl))) (by omega)).trans hlb
          have := run_endRound (P := P) jump hl3
          rw [hrec] at this
          refine ⟨by rw [hrec]; exact this, World.putObj_heap_same (Array.getElem?_eq_some_iff.1 hl3).1, (World.putObj_heap_other (by omega)).trans ((hk3.block D (.inl (.inr (.inl rfl))) (by omega)).trans hkb), ?_⟩
          refine ((hka.less ?_).trans (keptb _ hnT)).trans ((hk3.less ?_).trans (Kept.putObj _ _ hnT))
          · exact fun k h _ => h.elim (fun h => .inl (.inl h)) .inr
          · exact fun k h _ => h.elim (fun h => .inl (.inl h)) .inr
        rintro e a3 W3 hp
        cases e with
        | normal =>
          obtain ⟨hk3, hi3⟩ := hp
          obtain ⟨hr, hl4, hk4, hkk⟩ := fin none W3 hk3
          exact ⟨_, _, hr, .inl ⟨rfl, ⟨hI _ _ _ _ _ hi3 (Step.putObj _ _ (.inr (.inr rfl))), ⟨hl4, hnl⟩, ⟨hk4, hnk⟩⟩, hkk⟩⟩
        | ret =>
          obtain ⟨hk3, hi3⟩ := hp
          obtain ⟨hr, hl4, hk4, hkk⟩ := fin (some .ret) W3 hk3
          exact ⟨_, _, hr, .inr ⟨rfl, ⟨.ret, hIx _ _ _ _ _ _ hi3 (Step.putObj _ _ (.inr (.inr rfl))), ⟨hl4, hnl⟩, ⟨hk4, hnk⟩⟩, hkk⟩⟩
        | exit id =>
          obtain ⟨hk3, hi3⟩ := hp
          obtain ⟨hr, hl4, hk4, hkk⟩ := fin (some (.exit id)) W3 hk3
          exact ⟨_, _, hr, .inr ⟨rfl, ⟨.exit id, hIx _ _ _ _ _ _ hi3 (Step.putObj _ _ (.inr (.inr rfl))), ⟨hl4, hnl⟩, ⟨hk4, hnk⟩⟩, hkk⟩⟩
        | goto t =>
          obtain ⟨hk3, hi3⟩ := hp
          obtain ⟨hr, hl4, hk4, hkk⟩ := fin (some (.goto t)) W3 hk3
          exact ⟨_, _, hr, .inr ⟨rfl, ⟨.goto t, hIx _ _ _ _ _ _ hi3 (Step.putObj _ _ (.inr (.inr rfl))), ⟨hl4, hnl⟩, ⟨hk4, hnk⟩⟩, hkk⟩⟩
        | panic ch => exact hp.elim
        | outgrown => exact hp.elim
      | ret => exact hpost.elim
      | exit id => exact hpost.elim
      | goto t => exact hpost.elim
      | panic ch => exact hpost.elim
      | outgrown => exact hpost.elim
    · -- behind the iterator
      rintro e W2 ⟨⟨v, rfl⟩, (⟨xs, R, hS, hi, ⟨hl, hnl⟩, ⟨hk, hnk⟩⟩ | ⟨pre, R, hSp, c, hi, ⟨hl, hnl⟩, ⟨hk, hnk⟩⟩)⟩
      · exact ⟨none, _, by have := run_endLoop (P := P) hl (by rw [hrec]; simp); rw [hrec] at this; exact this,
          hdone D (R2 R) xs _ (by omega) (.inr (.inl rfl)) hS (hI _ _ _ _ _ hi (Step.putObj _ _ (.inr (.inr rfl)))) ((World.putObj_heap_other (by omega)).trans hk)⟩
      · exact ⟨some c, _, by have := run_endLoop (P := P) hl (by rw [hrec]; simp); rw [hrec] at this; exact this,
          hstop D (R2 R) c pre _ (by omega) (.inr (.inl rfl)) hSp (hIx c _ _ _ _ _ hi (Step.putObj _ _ (.inr (.inr rfl)))) ((World.putObj_heap_other (by omega)).trans hk)⟩

/-- what a function that has left several such loops owes at its return -/
abbrev mark (D : Nat) : Deferred := { target := .collected D, args := #[] }
theorem leaves_marks {fn : Func} {tmps : Array Value} {R : Ending → World → Prop} : ∀ (Ds : List Nat) (W : World), Ds.Nodup → (∀ D ∈ Ds, W.heap[D]? = some (.deferred (some []))) →
    (∀ W', Kept (fun k => k ∉ Ds) W W' → LeavesIn F n P fn tmps R [] .returning W') → LeavesInM F n P fn tmps R (Ds.map mark) .returning W
  | [], W, _, _, h => h W (Kept.refl _ _)
  | D :: Ds, W, hnd, hW, h => by
    have hnd' := List.nodup_cons.1 hnd
    refine ⟨by simp, .inl ⟨D, _, rfl, run_takeDeferred (hW D (List.mem_cons_self ..)), ?_⟩⟩
    refine leaves_marks Ds _ hnd'.2 (fun E hE => ?_) (fun W' hk => h W' ?_)
    · exact (World.putObj_heap_other (fun e => by subst e; exact hnd'.1 hE)).trans (hW E (List.mem_cons_of_mem _ hE))
    · exact (Kept.putObj W _ (fun hn => hn (List.mem_cons_self ..))).trans (hk.less fun k hk _ hm => hk (List.mem_cons_of_mem _ hm))

/-- a row that is owned, by cases -/
theorem row_cases {w : World} {base : Nat} {e : TypeId} {size : Nat} {v : Value} {m : Nat} {xs : List Value} (h : w.ownsRow base e size v m xs) :
    ∃ ao cap, v = .slice ao m cap ∧ (0 < m → ∃ g, ao = some ⟨g, 0, none⟩ ∧ base ≤ g ∧ g < w.heap.size) := by
  rcases h.2 with ⟨rfl, rfl⟩ | ⟨g, cap, cur, rfl, h2, h3, _⟩
  · exact ⟨none, 0, rfl, fun h => by omega⟩
  · exact ⟨_, cap, rfl, fun _ => ⟨g, rfl, h2, (Array.getElem?_eq_some_iff.1 h3).1⟩⟩
theorem row_kept {T : Blocks} {w w' : World} {base : Nat} {e : TypeId} {size : Nat} {v : Value} {m : Nat} {xs : List Value} (h : w.ownsRow base e size v m xs) (hk : Kept T w w') (hT : ∀ g, v.ownBlock = some g → T g) :
    w'.ownsRow base e size v m xs := by
  rcases h with ⟨h0, h1 | ⟨g, cap, cur, h1, h2, h3, h4⟩⟩
  · exact ⟨h0, .inl h1⟩
  · exact ⟨h0, .inr ⟨g, cap, cur, h1, h2, (hk.block g (hT g (by rw [h1]; rfl)) (Array.getElem?_eq_some_iff.1 h3).1).trans h3, h4⟩⟩
end Sq
end Go.Proofs.Ytdaafledkloegaa

/-
  An object in a block of its own: its cells, a store into one, and what keeps it.
-/
namespace Go.Proofs.Ytdaafledkloegaa
open Go.RowKit
set_option linter.unusedVariables false
namespace Ob

/-- block b is an object of type t whose cells are cs -/
def Obj (W : World) (b : Nat) (t : TypeId) (cs : List Value) : Prop := W.heap[b]? = some (.cells cs.toArray t (0, 0))

theorem Obj.lt {W : World} {b : Nat} {t : TypeId} {cs : List Value} (h : Obj W b t cs) : b < W.heap.size := (Array.getElem?_eq_some_iff.1 h).1
theorem Obj.cell {W : World} {b : Nat} {t : TypeId} {cs : List Value} (h : Obj W b t cs) (j : Nat) : W.cell? ⟨b, j, none⟩ = cs[j]? := by simp [World.cell?, show W.heap[b]? = _ from h]
theorem Obj.frozen {W : World} {b : Nat} {t : TypeId} {cs : List Value} (h : Obj W b t cs) (j : Nat) : W.frozen? ⟨b, j, none⟩ = false := by simp [World.frozen?, show W.heap[b]? = _ from h]
theorem Obj.new (W : World) (t : TypeId) (cs : List Value) : Obj (W.alloc (.cells cs.toArray t)) W.heap.size t cs := World.alloc_heap_new W _
theorem Obj.alloc {W : World} {b : Nat} {t : TypeId} {cs : List Value} (h : Obj W b t cs) (o : Go.Obj) : Obj (W.alloc o) b t cs := (Below.heap_alloc W o b h.lt).trans h
theorem Obj.set {W : World} {b : Nat} {t : TypeId} {cs : List Value} (h : Obj W b t cs) (j : Nat) (v : Value) : Obj (W.setCell ⟨b, j, none⟩ v) b t (cs.set j v) := by
  obtain ⟨hlt, hk⟩ := Array.getElem?_eq_some_iff.1 h
  show (W.heap.modify b _)[b]? = _
  rw [Array.getElem?_eq_getElem (by rw [Array.size_modify]; exact hlt), Array.getElem_modify_self, hk]
  simp
theorem Obj.other {W : World} {b : Nat} {t : TypeId} {cs : List Value} (h : Obj W b t cs) {p : Addr} (hp : b ≠ p.block) (v : Value) : Obj (W.setCell p v) b t cs := (Below.heap_setCell W p v b hp).trans h
theorem Obj.kept {T : Sq.Blocks} {W W' : World} {b : Nat} {t : TypeId} {cs : List Value} (h : Obj W b t cs) (hk : Sq.Kept T W W') (hT : T b) : Obj W' b t cs := (hk.block b hT h.lt).trans h
theorem Obj.below {W W' : World} {b : Nat} {t : TypeId} {cs : List Value} (h : Obj W b t cs) (hk : Below W.heap.size W W') : Obj W' b t cs := (hk.block b h.lt).trans h
theorem Obj.grown {W W' : World} {row : Option Nat} {b : Nat} {t : TypeId} {cs : List Value} (h : Obj W b t cs) (hg : W.grownBy W' row) (hr : row ≠ some b) : Obj W' b t cs := (hg.block b h.lt (Ne.symm hr)).trans h
theorem Obj.drew {W : World} {b : Nat} {t : TypeId} {cs : List Value} (h : Obj W b t cs) : Obj W.drew b t cs := h
/-- an object is no row of another type -/
theorem Obj.not_row {W : World} {b : Nat} {t e : TypeId} {cs : List Value} (h : Obj W b t cs) (hte : t ≠ e) {base size m : Nat} {v : Value} {xs : List Value} (hr : W.ownsRow base e size v m xs) : v.ownBlock ≠ some b := by
  rcases hr.2 with ⟨rfl, _⟩ | ⟨g, cap, cur, rfl, _, hgb, _⟩
  · simp [Value.ownBlock]
  · intro e'
    obtain rfl : g = b := by simpa [Value.ownBlock] using e'
    have := (show W.heap[g]? = _ from h).symm.trans hgb
    simp at this
    exact hte this.2
/-- two rows of different types are not one -/
theorem rows_apart {W : World} {b1 b2 : Nat} {t e : TypeId} {n1 n2 m1 m2 : Nat} {u v : Value} {xs ys : List Value} (h1 : W.ownsRow b1 t n1 u m1 xs) (h2 : W.ownsRow b2 e n2 v m2 ys) (hte : t ≠ e) : ∀ g, u.ownBlock = some g → v.ownBlock ≠ some g := by
  intro g hu hv
  rcases h1.2 with ⟨rfl, _⟩ | ⟨g1, cap1, cur1, rfl, _, hg1, _⟩
  · simp [Value.ownBlock] at hu
  · rcases h2.2 with ⟨rfl, _⟩ | ⟨g2, cap2, cur2, rfl, _, hg2, _⟩
    · simp [Value.ownBlock] at hv
    · obtain rfl : g1 = g := by simpa [Value.ownBlock] using hu
      obtain rfl : g2 = g1 := by simpa [Value.ownBlock] using hv
      rw [hg1] at hg2
      simp at hg2
      exact hte hg2.2
/-- a row lies on while another block is written -/
theorem row_other {W : World} {base size m : Nat} {e : TypeId} {v : Value} {xs : List Value} (h : W.ownsRow base e size v m xs) {p : Addr} (hp : v.ownBlock ≠ some p.block) (u : Value) : (W.setCell p u).ownsRow base e size v m xs := by
  rcases h with ⟨h0, h1 | ⟨g, cap, cur, h1, h2, h3, h4⟩⟩
  · exact ⟨h0, .inl h1⟩
  · exact ⟨h0, .inr ⟨g, cap, cur, h1, h2, (Below.heap_setCell W p u g (fun e => hp (by rw [h1, ← e]; rfl))).trans h3, h4⟩⟩
theorem row_lt {W : World} {base size m : Nat} {e : TypeId} {v : Value} {xs : List Value} (h : W.ownsRow base e size v m xs) {g : Nat} (hg : v.ownBlock = some g) : base ≤ g ∧ g < W.heap.size := by
  rcases h.2 with ⟨h1, _⟩ | ⟨g', cap', cur, h1, h2, h3, _⟩
  · rw [h1] at hg; simp [Value.ownBlock] at hg
  · rw [h1] at hg
    obtain rfl : g' = g := by simpa [Value.ownBlock] using hg
    exact ⟨h2, (Array.getElem?_eq_some_iff.1 h3).1⟩
end Ob
end Go.Proofs.Ytdaafledkloegaa

namespace Go.Proofs.Ytdaafledkloegaa
open Go.RowKit
set_option linter.unusedSimpArgs false
set_option linter.unusedVariables false

end Go.Proofs.Ytdaafledkloegaa
/-
  strings.Clone: the same bytes, in new memory.
-/
namespace Go.Proofs.Ytdaafledkloegaa
open Go.RowKit

theorem info_u8 : (Try.prog.info? 5).map (fun i => (i.zero, i.size, i.bytes)) = some (some (.int .u8 0), 1, 1) := by kernel_rfl

end Go.Proofs.Ytdaafledkloegaa
namespace Go.Proofs.Ytdaafledkloegaa
open Go.RowKit
set_option linter.unusedSimpArgs false
set_option linter.unusedVariables false

end Go.Proofs.Ytdaafledkloegaa
namespace Go.Proofs.Ytdaafledkloegaa
open Go.RowKit
set_option linter.unusedSimpArgs false
set_option linter.unusedVariables false

end Go.Proofs.Ytdaafledkloegaa
namespace Go.Proofs.Ytdaafledkloegaa
open Go.RowKit
set_option linter.unusedSimpArgs false
set_option linter.unusedVariables false

end Go.Proofs.Ytdaafledkloegaa
namespace Go.Proofs.Ytdaafledkloegaa
open Go.RowKit
set_option linter.unusedSimpArgs false
set_option linter.unusedVariables false

end Go.Proofs.Ytdaafledkloegaa
namespace Go.Proofs.Ytdaafledkloegaa
open Go.RowKit
set_option linter.unusedSimpArgs false
set_option linter.unusedVariables false

end Go.Proofs.Ytdaafledkloegaa
namespace Go.Proofs.Ytdaafledkloegaa
open Go.RowKit
set_option linter.unusedSimpArgs false
set_option linter.unusedVariables false

end Go.Proofs.Ytdaafledkloegaa
namespace Go.Proofs.Ytdaafledkloegaa
open Go.RowKit
set_option linter.unusedSimpArgs false
set_option linter.unusedVariables false

end Go.Proofs.Ytdaafledkloegaa
namespace Go.Proofs.Ytdaafledkloegaa
open Go.RowKit
set_option linter.unusedSimpArgs false
set_option linter.unusedVariables false

/-- P1.7, as the walk spells it -/
def mixOf (N : Int) : Int :=
  let a := IntKind.u64.wrap (N + 11400714819323198485)
  let b := IntKind.u64.wrap (bits BinOp.xor IntKind.u64 a (a / 1073741824) * 13787848793156543929)
  let c := IntKind.u64.wrap (bits BinOp.xor IntKind.u64 b (b / 134217728) * 10723151780598845931)
  bits BinOp.xor IntKind.u64 c (c / 2147483648)
theorem byte_at (n i : Nat) (hi : i < 8) : Value.int .u8 ((n : Int) / 2 ^ (8 * i) % 256) = .int .u8 ((Cd.bigByte n (7 - i)).toNat : Int) := by
  congr 1
  unfold Cd.bigByte
  rw [UInt8.toNat_ofNat', show 7 - (7 - i) = i from by omega, show (256 : Nat) ^ i = 2 ^ (8 * i) from by rw [Nat.pow_mul]]
  have : ((n : Int) / 2 ^ (8 * i)) = ((n / 2 ^ (8 * i) : Nat) : Int) := by simp
  rw [this]; omega

end Go.Proofs.Ytdaafledkloegaa
namespace Go.Proofs.Ytdaafledkloegaa
open Go.RowKit
set_option linter.unusedSimpArgs false
set_option linter.unusedVariables false

end Go.Proofs.Ytdaafledkloegaa
/-
  The document's answers on roots (tapestryref04): Name, Takes, May.
-/
namespace Go.Proofs.Ytdaafledkloegaa
open Go.RowKit
set_option linter.unusedSimpArgs false
set_option linter.unusedVariables false

namespace Fi
open Op (bytesLess)
def inI64 (n : Int) : Prop := -9223372036854775808 ≤ n ∧ n ≤ 9223372036854775807
/-- a slice of numbers, in blocks below B -/
def Ints (B : Nat) (W : World) (v : Value) (l : List Int) : Prop :=
  ∃ (a : Option Addr) (cap b off : Nat), v = .slice a l.length cap ∧ (0 < l.length → a = some ⟨b, off, none⟩ ∧ b < B) ∧ ∀ j (h : j < l.length), W.cell? ⟨b, off + j, none⟩ = some (.int .i64 l[j])
theorem Ints.below {B : Nat} {W W' : World} {v : Value} {l : List Int} (h : Ints B W v l) (hb : Below B W W') : Ints B W' v l := by
  obtain ⟨a, cap, b, off, h1, h2, h3⟩ := h
  exact ⟨a, cap, b, off, h1, h2, fun j hj => (hb.cell (p := ⟨b, off + j, none⟩) (h2 (by omega)).2).trans (h3 j hj)⟩
/-- a slice of files, with the values of their lists of blocks -/
def Files (B : Nat) (W : World) (v : Value) (L : List (File × Value)) : Prop :=
  ∃ (a : Option Addr) (cap b off : Nat), v = .slice a L.length cap ∧ (0 < L.length → a = some ⟨b, off, none⟩ ∧ b < B) ∧ ∀ j (h : j < L.length),
    W.cell? ⟨b, off + j * 3, none⟩ = some (.string (Cd.bs L[j].1.name)) ∧ W.cell? ⟨b, off + j * 3 + 1, none⟩ = some (.int .i64 L[j].1.size) ∧ W.cell? ⟨b, off + j * 3 + 2, none⟩ = some L[j].2 ∧ Ints B W L[j].2 L[j].1.blocks
theorem Files.below {B : Nat} {W W' : World} {v : Value} {L : List (File × Value)} (h : Files B W v L) (hb : Below B W W') : Files B W' v L := by
  obtain ⟨a, cap, b, off, h1, h2, h3⟩ := h
  refine ⟨a, cap, b, off, h1, h2, fun j hj => ?_⟩
  have hl := (h2 (by omega)).2
  obtain ⟨g1, g2, g3, g4⟩ := h3 j hj
  exact ⟨(hb.cell (p := ⟨b, off + j * 3, none⟩) hl).trans g1, (hb.cell (p := ⟨b, off + j * 3 + 1, none⟩) hl).trans g2, (hb.cell (p := ⟨b, off + j * 3 + 2, none⟩) hl).trans g3, g4.below hb⟩
/-- bounds of what came in -/
structure FileIn (f : File) : Prop where
  name : f.name.length ≤ 1048576
  size : inI64 f.size
  many : f.blocks.length ≤ 1048576
  blocks : ∀ b ∈ f.blocks, inI64 b

theorem bl_total : ∀ p n : Dat, bytesLess p n = !(bytesLess n p || n == p)
  | [], [] => by simp [bytesLess]
  | [], b :: y => by simp [bytesLess]
  | a :: x, [] => by simp [bytesLess]
  | a :: x, b :: y => by
    have ih := bl_total x y
    have e1 : (a < b) ↔ a.toNat < b.toNat := UInt8.lt_iff_toNat_lt
    have e2 : (b < a) ↔ b.toNat < a.toNat := UInt8.lt_iff_toNat_lt
    have e3 : (a = b) ↔ a.toNat = b.toNat := UInt8.toNat_inj.symm
    have e4 : (b = a) ↔ b.toNat = a.toNat := UInt8.toNat_inj.symm
    rw [Cd.bl_cons, Cd.bl_cons, ih]
    have e5 : ((b :: y : Dat) == a :: x) = (decide (a.toNat = b.toNat) && (y == x)) := by
      rw [Bool.eq_iff_iff]; simp [e4]; intro _; omega
    rw [e5]
    by_cases h1 : a.toNat < b.toNat
    · have h2 : ¬ b.toNat < a.toNat := by omega
      have h3 : ¬ a.toNat = b.toNat := by omega
      have h4 : ¬ b.toNat = a.toNat := by omega
      simp [h1, h2, h3, h4]
    · by_cases h3 : a.toNat = b.toNat
      · simp [h3]
      · have h2 : b.toNat < a.toNat := by omega
        simp [h1, h2, h3]

/-- which blocks are taken, as a row -/
def marks (N : Nat) (t : List Int) : List Value := (List.range N).map fun (i : Nat) => Value.bool (decide ((i : Int) ∈ t))
theorem marks_none (N : Nat) : marks N [] = List.replicate N (.bool false) := by
  unfold marks; apply List.ext_getElem <;> simp
theorem marks_get (N : Nat) (t : List Int) (i : Nat) (h : i < N) : (marks N t)[i]? = some (.bool (decide ((i : Int) ∈ t))) := by simp [marks, h]
theorem marks_set (N : Nat) (t : List Int) (i : Nat) : (marks N t).set i (.bool true) = marks N ((i : Int) :: t) := by
  apply List.ext_getElem?
  intro j
  by_cases hj : j < N
  · rw [List.getElem?_set, marks_get N t j hj, marks_get N _ j hj]
    by_cases hij : i = j
    · subst hij; simp [marks, hj]
    · rw [if_neg hij]
      have : ¬ (j : Int) = (i : Int) := by omega
      simp [this]
  · rw [List.getElem?_eq_none (by simp [marks]; omega), List.getElem?_eq_none (by simp [marks]; omega)]
def prevOf (L : List File) : Nat → Option Dat
  | 0 => none
  | k + 1 => (L[k]?).map (·.name)
theorem takes_in {n : Int} (h0 : 0 ≤ n) : takes n = n / 256 + if 0 < n % 256 then 1 else 0 := rfl
end Fi

theorem belowN {B : Nat} {a w : World} (h : Below B a w) (n : Nat) : Below B a (w.drewN n) := ⟨h.os, h.tape, h.output, h.size, h.block⟩

end Go.Proofs.Ytdaafledkloegaa

/-
  Plain mathematics of P4.1: reading a root, thing by thing; what is put again and is the same was the root's own bytes. No program is named here.
-/
namespace Go.Proofs.Ytdaafledkloegaa
namespace Fi

/-- what is left, and whether there was a fault -/
abbrev TkS := Dat × Bool
def tkNum (most : Nat) (s : TkS) : Nat × TkS :=
  if s.2 = true ∨ (Cd.takeU s.1).2.2 ≠ 0 ∨ most < (Cd.takeU s.1).1 then (0, (s.1, true)) else ((Cd.takeU s.1).1, (s.1.drop (Cd.takeU s.1).2.1, s.2))
def tkText (most : Nat) (s : TkS) : Dat × TkS :=
  if s.2 = true ∨ (Cd.takeT s.1 most).2.2 ≠ 0 then ([], (s.1, true)) else ((Cd.takeT s.1 most).1, (s.1.drop (Cd.takeT s.1 most).2.1, s.2))
def tkRunsGo : Nat → List Int → TkS → List Int × TkS
  | 0, bl, s => (bl, s)
  | k + 1, bl, s => tkRunsGo k (bl ++ runOf (((tkNum 16384 s).1 : Int), (tkNum (16384 - bl.length) (tkNum 16384 s).2).1)) (tkNum (16384 - bl.length) (tkNum 16384 s).2).2
def tkRuns (s : TkS) : List Int × TkS := tkRunsGo (tkNum s.1.length s).1 [] (tkNum s.1.length s).2
def tkFile (s : TkS) : File × TkS :=
  (⟨(tkText 32 s).1, ((tkNum 9223372036854775807 (tkText 32 s).2).1 : Int), (tkRuns (tkNum 9223372036854775807 (tkText 32 s).2).2).1⟩, (tkRuns (tkNum 9223372036854775807 (tkText 32 s).2).2).2)
def tkFiles : Nat → List File → TkS → List File × TkS
  | 0, fs, s => (fs, s)
  | k + 1, fs, s => tkFiles k (fs ++ [(tkFile s).1]) (tkFile s).2
def tkCount (s : TkS) : Nat × TkS := tkNum 64 (tkNum 4611686018427387904 s).2
def tkAll (s : TkS) : List File × TkS := tkFiles (tkCount s).1 [] (tkCount s).2
def tkRoot (l : Dat) : Root := if (tkAll (l, false)).2.2 = true then ⟨0, []⟩ else ⟨(tkNum 4611686018427387904 (l, false)).1, (tkAll (l, false)).1⟩
/-- DecodeRoot, as it is built -/
def decR (l : Dat) (n : Int) : Option Root :=
  if (Fr.take l).2.2 ≠ 0 then none else
  if (encode (tkRoot (Fr.take l).1.2) n).2 = 0 ∧ (encode (tkRoot (Fr.take l).1.2) n).1 = l.take (Fr.take l).2.1 then some (tkRoot (Fr.take l).1.2) else none

theorem putU_ne (n : Nat) : 1 ≤ (Cd.putU n).length := by
  rw [Cd.putU]; split <;> simp
theorem tkNum_put {most a : Nat} (x : Dat) (ha : a ≤ most) (h : a < 18446744073709551616) : tkNum most (Cd.putU a ++ x, false) = (a, (x, false)) := by
  unfold tkNum
  simp only [Cd.takeU_putU a x h]
  rw [if_neg (by simp; omega)]
  simp
theorem tkText_put {most : Nat} {s : Dat} (x : Dat) (hs : s.length ≤ most) (h : most < 18446744073709551616) : tkText most (Cd.putT s ++ x, false) = (s, (x, false)) := by
  have hu : Cd.takeU (Cd.putT s ++ x) = (s.length, (Cd.putU s.length).length, 0) := by
    unfold Cd.putT
    rw [List.append_assoc, Cd.takeU_putU _ _ (by omega)]
  have ht : Cd.takeT (Cd.putT s ++ x) (most : Int) = (s, (Cd.putU s.length).length + s.length, 0) := by
    rw [Cd.takeT_text hu (by simpa using hs) (by unfold Cd.putT; simp)]
    unfold Cd.putT
    rw [List.append_assoc, List.drop_left' rfl, List.take_left' rfl]
  unfold tkText
  simp only [ht]
  rw [if_neg (by simp)]
  unfold Cd.putT
  rw [← List.length_append, List.drop_left' rfl]
theorem runOf_len (p : Int × Nat) : (runOf p).length = p.2 := by simp [runOf]
theorem tkRunsGo_put : ∀ (L : List (Int × Nat)) (bl : List Int) (x : Dat), (∀ p ∈ L, 0 ≤ p.1 ∧ p.1 ≤ 16384) → bl.length + (L.flatMap runOf).length ≤ 16384 → tkRunsGo L.length bl (L.flatMap runB ++ x, false) = (bl ++ L.flatMap runOf, (x, false))
  | [], bl, x, _, _ => by simp [tkRunsGo]
  | p :: r, bl, x, hp, hl => by
    rw [List.flatMap_cons, List.length_append, runOf_len] at hl
    obtain ⟨h0, h1⟩ := hp p (List.mem_cons_self ..)
    have e1 : tkNum 16384 ((p :: r).flatMap runB ++ x, false) = (p.1.toNat, (Cd.putU p.2 ++ (r.flatMap runB ++ x), false)) := by
      rw [List.flatMap_cons]
      unfold runB
      rw [List.append_assoc, List.append_assoc]
      exact tkNum_put _ (by omega) (by omega)
    have e2 : tkNum (16384 - bl.length) (Cd.putU p.2 ++ (r.flatMap runB ++ x), false) = (p.2, (r.flatMap runB ++ x, false)) := tkNum_put _ (by omega) (by omega)
    rw [List.length_cons, tkRunsGo, e1]
    simp only [e2]
    rw [show ((p.1.toNat : Nat) : Int) = p.1 by omega]
    rw [tkRunsGo_put r (bl ++ runOf (p.1, p.2)) x (fun q hq => hp q (List.mem_cons_of_mem _ hq)) (by rw [List.length_append, runOf_len]; simp only; omega)]
    rw [List.flatMap_cons, List.append_assoc]
theorem runB_pos (p : Int × Nat) : 2 ≤ (runB p).length := by
  unfold runB
  rw [List.length_append]
  have := putU_ne p.1.toNat
  have := putU_ne p.2
  omega
theorem flat_pos (L : List (Int × Nat)) : L.length ≤ (L.flatMap runB).length := by
  induction L with
  | nil => simp
  | cons p r ih => rw [List.flatMap_cons, List.length_append, List.length_cons]; have := runB_pos p; omega
theorem runs_first (l : List Int) (h : ∀ b ∈ l, 0 ≤ b ∧ b ≤ 16384) : ∀ p ∈ runs l, 0 ≤ p.1 ∧ p.1 ≤ 16384 := by
  induction hn : l.length using Nat.strongRecOn generalizing l with
  | _ n ih =>
    match l, hn with
    | [], _ => intro p hp; rw [runs] at hp; cases hp
    | y :: r, hn =>
      rw [runs_cons]
      intro p hp
      rcases List.mem_cons.1 hp with rfl | hp
      · exact h y (List.mem_cons_self ..)
      · simp at hn
        exact ih (r.drop (runLen y r)).length (by simp; omega) _ (fun b hb => h b (List.mem_cons_of_mem _ (List.mem_of_mem_drop hb))) rfl p hp
theorem tkRuns_put (l : List Int) (x : Dat) (h : ∀ b ∈ l, 0 ≤ b ∧ b ≤ 16384) (hl : l.length ≤ 16384) : tkRuns (runBytes l ++ x, false) = (l, (x, false)) := by
  unfold tkRuns runBytes
  have hr := runs_len l
  have hp := flat_pos (runs l)
  have e1 : tkNum (Cd.putU (runs l).length ++ (runs l).flatMap runB ++ x).length (Cd.putU (runs l).length ++ (runs l).flatMap runB ++ x, false) = ((runs l).length, ((runs l).flatMap runB ++ x, false)) := by
    have hle : (runs l).length ≤ (Cd.putU (runs l).length ++ (runs l).flatMap runB ++ x).length := by rw [List.length_append, List.length_append]; omega
    generalize (Cd.putU (runs l).length ++ (runs l).flatMap runB ++ x).length = m at *
    rw [List.append_assoc]
    exact tkNum_put _ hle (by omega)
  simp only [e1]
  rw [tkRunsGo_put (runs l) [] x (runs_first l h) (by rw [runs_expand]; simpa using hl), runs_expand]
  rfl
/-- a file that a root may have, as it is read -/
structure FRd (f : File) : Prop where
  name : f.name.length ≤ 32
  size : 0 ≤ f.size ∧ f.size ≤ 9223372036854775807
  blocks : ∀ b ∈ f.blocks, 0 ≤ b ∧ b ≤ 16384
  many : f.blocks.length ≤ 16384
theorem tkFile_put (f : File) (x : Dat) (h : FRd f) : tkFile (fileBytes f ++ x, false) = (f, (x, false)) := by
  unfold tkFile fileBytes
  have hs := h.size
  have e1 : tkText 32 (Cd.putT f.name ++ Cd.putU f.size.toNat ++ runBytes f.blocks ++ x, false) = (f.name, (Cd.putU f.size.toNat ++ (runBytes f.blocks ++ x), false)) := by
    rw [List.append_assoc, List.append_assoc]
    exact tkText_put _ h.name (by omega)
  have e2 : tkNum 9223372036854775807 (Cd.putU f.size.toNat ++ (runBytes f.blocks ++ x), false) = (f.size.toNat, (runBytes f.blocks ++ x, false)) := tkNum_put _ (by omega) (by omega)
  simp only [e1, e2, tkRuns_put f.blocks x h.blocks h.many]
  rw [show ((f.size.toNat : Nat) : Int) = f.size by omega]
theorem tkFiles_put : ∀ (L fs : List File) (x : Dat), (∀ f ∈ L, FRd f) → tkFiles L.length fs (L.flatMap fileBytes ++ x, false) = (fs ++ L, (x, false))
  | [], fs, x, _ => by simp [tkFiles]
  | f :: r, fs, x, h => by
    rw [List.length_cons, tkFiles, List.flatMap_cons, List.append_assoc, tkFile_put f _ (h f (List.mem_cons_self ..))]
    simp only
    rw [tkFiles_put r (fs ++ [f]) x (fun q hq => h q (List.mem_cons_of_mem _ hq)), List.append_assoc]
    rfl
theorem tkRoot_put (r : Root) (hg : r.gen ≤ 4611686018427387904) (hl : r.files.length ≤ 64) (h : ∀ f ∈ r.files, FRd f) : tkRoot (rootLoad r) = r := by
  have e1 : tkNum 4611686018427387904 (rootLoad r, false) = (r.gen, (Cd.putU r.files.length ++ (r.files.flatMap fileBytes ++ []), false)) := by
    unfold rootLoad
    rw [List.append_assoc, List.append_nil]
    exact tkNum_put _ hg (by omega)
  have e2 : tkCount (rootLoad r, false) = (r.files.length, (r.files.flatMap fileBytes ++ [], false)) := by
    unfold tkCount
    rw [e1]
    exact tkNum_put _ hl (by omega)
  have e3 : tkAll (rootLoad r, false) = (r.files, ([], false)) := by
    unfold tkAll
    rw [e2]
    have := tkFiles_put r.files [] [] h
    simpa using this
  unfold tkRoot
  rw [e3, e1]
  rfl
theorem frd_of_may {r : Root} {m : Int} (hm : m ≤ 16384) (h : may r m = true) : ∀ f ∈ r.files, FRd f := by
  obtain ⟨g1, g2, g3, hf⟩ := may_in h
  have hgo : mayGo m r.files none [] = true := by
    unfold may at h
    simp only [Bool.and_eq_true] at h
    exact h.2
  intro f hff
  obtain ⟨k1, k2, k3⟩ := hf f hff
  obtain ⟨l1, l2⟩ := mayGo_len hm hgo List.nodup_nil (fun b hb => by cases hb) f hff
  refine ⟨k3, ⟨k2, ?_⟩, fun b hb => by have := k1 b hb; omega, l1⟩
  unfold takes at l2
  omega
theorem decR_decode (l : Dat) (n : Int) : decR l n = decode l n := by
  have key : ∀ r, IsRoot l n r → decR l n = some r := fun r h => by
    obtain ⟨h1, t, h2⟩ := h
    obtain ⟨a1, b1, c1, d1⟩ := encode_ok h1
    have ft := Fr.take_put (c := 1) (l := rootLoad r) (r := t) (by decide) (put_load b1)
    rw [← d1, h2] at ft
    have hm := may_in a1
    have hr := tkRoot_put r hm.2.1 hm.2.2.1 (frd_of_may (Int.min_le_right _ _) a1)
    unfold decR
    simp only [ft, hr]
    rw [if_neg (by simp), if_pos ⟨h1, by rw [← h2, List.take_left' rfl]⟩]
  cases hd : decode l n with
  | some r => exact key r (decode_iff.1 hd)
  | none =>
    have hn := decode_none.1 hd
    unfold decR
    split
    · rfl
    · split
      · rename_i h
        exact absurd ⟨h.1, by rw [h.2]; exact List.take_prefix _ _⟩ (hn _)
      · rfl

/-! ### bounds of what is read, whatever it is -/
theorem tkNum_le (most : Nat) (s : TkS) : (tkNum most s).1 ≤ most := by
  unfold tkNum
  split
  · exact Nat.zero_le _
  · rename_i h
    simp only
    have : ¬ most < (Cd.takeU s.1).1 := fun hh => h (.inr (.inr hh))
    omega
theorem tkNum_len (most : Nat) (s : TkS) : (tkNum most s).2.1.length ≤ s.1.length := by
  unfold tkNum
  split
  · exact Nat.le_refl _
  · simp
theorem takeT_len (l : Dat) (most : Nat) : (Cd.takeT l most).1.length ≤ most := by
  unfold Cd.takeT
  split
  · simp
  · split
    · simp
    · split
      · simp
      · rename_i h1 h2 h3
        simp at h2 h3 ⊢
        omega
theorem tkText_le (most : Nat) (s : TkS) : (tkText most s).1.length ≤ most := by
  unfold tkText
  split
  · simp
  · exact takeT_len _ _
theorem tkText_len (most : Nat) (s : TkS) : (tkText most s).2.1.length ≤ s.1.length := by
  unfold tkText
  split
  · exact Nat.le_refl _
  · simp
theorem tkRunsGo_in : ∀ (k : Nat) (bl : List Int) (s : TkS), bl.length ≤ 16384 → (∀ b ∈ bl, 0 ≤ b ∧ b ≤ 32768) → (tkRunsGo k bl s).1.length ≤ 16384 ∧ (∀ b ∈ (tkRunsGo k bl s).1, 0 ≤ b ∧ b ≤ 32768) ∧ (tkRunsGo k bl s).2.1.length ≤ s.1.length
  | 0, bl, s, h1, h2 => ⟨h1, h2, Nat.le_refl _⟩
  | k + 1, bl, s, h1, h2 => by
    rw [tkRunsGo]
    have a1 := tkNum_le 16384 s
    have a2 := tkNum_le (16384 - bl.length) (tkNum 16384 s).2
    have a3 := tkNum_len 16384 s
    have a4 := tkNum_len (16384 - bl.length) (tkNum 16384 s).2
    have := tkRunsGo_in k (bl ++ runOf (((tkNum 16384 s).1 : Int), (tkNum (16384 - bl.length) (tkNum 16384 s).2).1)) (tkNum (16384 - bl.length) (tkNum 16384 s).2).2 (by rw [List.length_append, runOf_len]; simp only; omega) (fun b hb => by
      rcases List.mem_append.1 hb with hb | hb
      · exact h2 b hb
      · unfold runOf at hb
        obtain ⟨j, hj, rfl⟩ := List.mem_map.1 hb
        have := List.mem_range.1 hj
        simp only at this ⊢
        omega)
    exact ⟨this.1, this.2.1, by omega⟩
theorem tkRuns_in (s : TkS) : (tkRuns s).1.length ≤ 16384 ∧ (∀ b ∈ (tkRuns s).1, 0 ≤ b ∧ b ≤ 32768) ∧ (tkRuns s).2.1.length ≤ s.1.length := by
  unfold tkRuns
  have h := tkRunsGo_in (tkNum s.1.length s).1 [] (tkNum s.1.length s).2 (by simp) (fun b hb => by cases hb)
  have := tkNum_len s.1.length s
  exact ⟨h.1, h.2.1, by omega⟩
theorem tkFile_in (s : TkS) : FileIn (tkFile s).1 ∧ (tkFile s).2.1.length ≤ s.1.length := by
  unfold tkFile
  have a := tkText_le 32 s
  have b := tkNum_le 9223372036854775807 (tkText 32 s).2
  obtain ⟨c, d, e⟩ := tkRuns_in (tkNum 9223372036854775807 (tkText 32 s).2).2
  have f := tkText_len 32 s
  have g := tkNum_len 9223372036854775807 (tkText 32 s).2
  exact ⟨⟨by simp only; omega, ⟨by simp only; omega, by simp only; omega⟩, by simp only; omega, fun x hx => by have := d x hx; exact ⟨by omega, by omega⟩⟩, by simp only; omega⟩
theorem tkFiles_in : ∀ (k : Nat) (fs : List File) (s : TkS), (∀ f ∈ fs, FileIn f) → (∀ f ∈ (tkFiles k fs s).1, FileIn f) ∧ (tkFiles k fs s).1.length = fs.length + k
  | 0, fs, s, h => ⟨h, rfl⟩
  | k + 1, fs, s, h => by
    rw [tkFiles]
    have := tkFiles_in k (fs ++ [(tkFile s).1]) (tkFile s).2 (fun f hf => by
      rcases List.mem_append.1 hf with hf | hf
      · exact h f hf
      · simp at hf; subst hf; exact (tkFile_in s).1)
    exact ⟨this.1, by rw [this.2, List.length_append, List.length_singleton]; omega⟩
theorem tkRoot_in (l : Dat) : (tkRoot l).gen ≤ 4611686018427387904 ∧ (tkRoot l).files.length ≤ 64 ∧ ∀ f ∈ (tkRoot l).files, FileIn f := by
  unfold tkRoot
  split
  · exact ⟨by simp, by simp, fun f hf => by cases hf⟩
  · have h := tkFiles_in (tkCount (l, false)).1 [] (tkCount (l, false)).2 (fun f hf => by cases hf)
    have h2 := tkNum_le 64 (tkNum 4611686018427387904 (l, false)).2
    refine ⟨tkNum_le _ _, ?_, h.1⟩
    show (tkAll (l, false)).1.length ≤ 64
    unfold tkAll
    rw [h.2]
    unfold tkCount
    simp only [List.length_nil]
    omega
end Fi
end Go.Proofs.Ytdaafledkloegaa

/-
  Plain data that a call has made itself, in rows of its own at B or above: kept, read, and put together by append. (What came in: XGen.)
-/
namespace Go.Proofs.Ytdaafledkloegaa
open Go.RowKit
set_option linter.unusedVariables false
namespace Gn

/-- a row of elements, each of so many cells -/
def OwL (W : World) (B : Nat) (te : TypeId) (sz : Nat) {α : Type} (ow : List Value → α → Prop) (v : Value) (l : List α) : Prop :=
  ∃ rows : List (List Value), rows.length = l.length ∧ W.ownsRow B te sz v l.length rows.flatten ∧ ∀ j (h : j < l.length) (h' : j < rows.length), rows[j].length = sz ∧ ow rows[j] l[j]
mutual
def OwC (P : Program) (B : Nat) (W : World) : (t : Ty) → TypeId → List Value → t.Den → Prop
  | .int k, _, cs, (a : Int) => cs = [.int k a] ∧ (Lit.int k a).wf = true
  | .bool, _, cs, (x : Bool) => cs = [.bool x]
  | .str, _, cs, (l : List UInt8) => cs = [.string ⟨l.toArray⟩] ∧ l.length ≤ maxLen
  | .slice e, ti, cs, (l : List e.Den) => ∃ te v, P.underlying ti = some (.slice te) ∧ cs = [v] ∧ OwL W B te e.size (OwC P B W e te) v l
  | .struct fs, ti, cs, d => ∃ Fs, P.underlying ti = some (.struct Fs) ∧ OwCs P B W fs Fs.toList cs d
def OwCs (P : Program) (B : Nat) (W : World) : (fs : Tys) → List Field → List Value → fs.Den → Prop
  | .nil, _, cs, _ => cs = []
  | .cons t r, l, cs, d => ∃ f l' c1 c2, l = f :: l' ∧ cs = c1 ++ c2 ∧ c1.length = t.size ∧ OwC P B W t f.type c1 d.1 ∧ OwCs P B W r l' c2 d.2
end
mutual
/-- the element types of the rows within -/
def Ty.rowsOf (P : Program) : Ty → TypeId → List TypeId
  | .slice e, ti => (match P.underlying ti with | some (.slice te) => te :: e.rowsOf P te | _ => [])
  | .struct fs, ti => (match P.underlying ti with | some (.struct Fs) => fs.rowsOf P Fs.toList | _ => [])
  | .int _, _ => []
  | .bool, _ => []
  | .str, _ => []
def Tys.rowsOf (P : Program) : Tys → List Field → List TypeId
  | .nil, _ => []
  | .cons t r, l => (match l with | f :: l' => t.rowsOf P f.type ++ r.rowsOf P l' | [] => [])
end

/-- of the rows of these types at B or above none has turned -/
def Spared (B : Nat) (X : List TypeId) (W W' : World) : Prop := ∀ k c te fz, B ≤ k → te ∈ X → W.heap[k]? = some (.cells c te fz) → W'.heap[k]? = W.heap[k]?
theorem Spared.less {B : Nat} {X Y : List TypeId} {W W' : World} (h : Spared B X W W') (hs : ∀ t ∈ Y, t ∈ X) : Spared B Y W W' := fun k c te fz hk ht => h k c te fz hk (hs te ht)
theorem Spared.of_kept {B : Nat} {X : List TypeId} {W W' : World} {T : Sq.Blocks} (h : Sq.Kept T W W') (hT : ∀ k, B ≤ k → k < W.heap.size → T k) : Spared B X W W' :=
  fun k c te fz hk _ hh => h.block k (hT k hk (Array.getElem?_eq_some_iff.1 hh).1) (Array.getElem?_eq_some_iff.1 hh).1
theorem Spared.below {B : Nat} {X : List TypeId} {W W' : World} (h : Below W.heap.size W W') : Spared B X W W' :=
  fun k c te fz hk _ hh => h.block k (Array.getElem?_eq_some_iff.1 hh).1
theorem Spared.alloc {B : Nat} {X : List TypeId} (W : World) (o : Go.Obj) : Spared B X W (W.alloc o) := Spared.below ((Below.refl _ _).alloc (Nat.le_refl _) _)
/-- an append to a row of another type -/
theorem Spared.grown {B B' : Nat} {X : List TypeId} {W W' : World} {te : TypeId} {sz m : Nat} {v : Value} {xs : List Value} (hr : W.ownsRow B' te sz v m xs) (hg : W.grownBy W' v.ownBlock) (hX : te ∉ X) : Spared B X W W' := by
  intro k c t' fz hk ht hh
  refine hg.block k (Array.getElem?_eq_some_iff.1 hh).1 (fun e => ?_)
  rcases hr.2 with ⟨rfl, _⟩ | ⟨g, cap, cur, rfl, _, hgb, _⟩
  · simp [Value.ownBlock] at e
  · obtain rfl : k = g := by simpa [Value.ownBlock] using e
    rw [hgb] at hh
    injection hh with hh
    injection hh with _ h2 _
    exact hX (h2 ▸ ht)
/-- a store into an object of another type -/
theorem Spared.set {B : Nat} {X : List TypeId} {W : World} {b : Nat} {t : TypeId} {cs : List Value} (ho : Ob.Obj W b t cs) (j : Nat) (u : Value) (hX : t ∉ X) : Spared B X W (W.setCell ⟨b, j, none⟩ u) := by
  intro k c t' fz hk ht hh
  refine Below.heap_setCell _ _ _ _ (fun e => ?_)
  simp only at e
  subst e
  have := (show W.heap[k]? = _ from ho).symm.trans hh
  injection this with h1
  injection h1 with _ h2 _
  exact hX (h2 ▸ ht)
theorem row_spared {B : Nat} {X : List TypeId} {W W' : World} {te : TypeId} {sz m : Nat} {v : Value} {xs : List Value} (h : W.ownsRow B te sz v m xs) (hs : Spared B X W W') (ht : te ∈ X) : W'.ownsRow B te sz v m xs := by
  rcases h with ⟨h0, h1 | ⟨g, cap, cur, h1, h2, h3, h4⟩⟩
  · exact ⟨h0, .inl h1⟩
  · exact ⟨h0, .inr ⟨g, cap, cur, h1, h2, (hs g _ te _ h2 ht h3).trans h3, h4⟩⟩
theorem row_lower {W : World} {B B' : Nat} {e : TypeId} {sz m : Nat} {v : Value} {xs : List Value} (h : W.ownsRow B e sz v m xs) (hB : B' ≤ B) : W.ownsRow B' e sz v m xs := by
  rcases h with ⟨h0, h1 | ⟨g, cap, cur, h1, h2, h3, h4⟩⟩
  · exact ⟨h0, .inl h1⟩
  · exact ⟨h0, .inr ⟨g, cap, cur, h1, Nat.le_trans hB h2, h3, h4⟩⟩
mutual
theorem OwC.spared {P : Program} {B : Nat} {W W' : World} : ∀ (t : Ty) {ti : TypeId} {cs : List Value} {d : t.Den}, OwC P B W t ti cs d → Spared B (t.rowsOf P ti) W W' → OwC P B W' t ti cs d
  | .int k, _, cs, d, h, _ => h
  | .bool, _, cs, d, h, _ => h
  | .str, _, cs, d, h, _ => h
  | .slice e, ti, cs, d, h, hs => by
    obtain ⟨te, v, hu, h1, rows, h2, h3, h4⟩ := h
    have hro : (Ty.slice e).rowsOf P ti = te :: e.rowsOf P te := by simp only [Ty.rowsOf, hu]
    rw [hro] at hs
    exact ⟨te, v, hu, h1, rows, h2, row_spared h3 hs (List.mem_cons_self ..), fun j hj hj' => ⟨(h4 j hj hj').1, OwC.spared e (h4 j hj hj').2 (hs.less (fun t ht => List.mem_cons_of_mem _ ht))⟩⟩
  | .struct fs, ti, cs, d, h, hs => by
    obtain ⟨Fs, hu, h⟩ := h
    have hro : (Ty.struct fs).rowsOf P ti = fs.rowsOf P Fs.toList := by simp only [Ty.rowsOf, hu]
    rw [hro] at hs
    exact ⟨Fs, hu, OwCs.spared fs h hs⟩
theorem OwCs.spared {P : Program} {B : Nat} {W W' : World} : ∀ (fs : Tys) {l : List Field} {cs : List Value} {d : fs.Den}, OwCs P B W fs l cs d → Spared B (fs.rowsOf P l) W W' → OwCs P B W' fs l cs d
  | .nil, l, cs, d, h, _ => h
  | .cons t r, l, cs, d, h, hs => by
    obtain ⟨f, l', c1, c2, rfl, h2, h3, h4, h5⟩ := h
    have hro : (Tys.cons t r).rowsOf P (f :: l') = t.rowsOf P f.type ++ r.rowsOf P l' := rfl
    rw [hro] at hs
    exact ⟨f, l', c1, c2, rfl, h2, h3, OwC.spared t h4 (hs.less (fun t ht => List.mem_append_left _ ht)), OwCs.spared r h5 (hs.less (fun t ht => List.mem_append_right _ ht))⟩
end
mutual
theorem OwC.lower {P : Program} {B B' : Nat} {W : World} (hB : B' ≤ B) : ∀ (t : Ty) {ti : TypeId} {cs : List Value} {d : t.Den}, OwC P B W t ti cs d → OwC P B' W t ti cs d
  | .int k, _, cs, d, h => h
  | .bool, _, cs, d, h => h
  | .str, _, cs, d, h => h
  | .slice e, ti, cs, d, h => by
    obtain ⟨te, v, hu, h1, rows, h2, h3, h4⟩ := h
    exact ⟨te, v, hu, h1, rows, h2, row_lower h3 hB, fun j hj hj' => ⟨(h4 j hj hj').1, OwC.lower hB e (h4 j hj hj').2⟩⟩
  | .struct fs, ti, cs, d, h => by
    obtain ⟨Fs, hu, h⟩ := h
    exact ⟨Fs, hu, OwCs.lower hB fs h⟩
theorem OwCs.lower {P : Program} {B B' : Nat} {W : World} (hB : B' ≤ B) : ∀ (fs : Tys) {l : List Field} {cs : List Value} {d : fs.Den}, OwCs P B W fs l cs d → OwCs P B' W fs l cs d
  | .nil, l, cs, d, h => h
  | .cons t r, l, cs, d, h => by
    obtain ⟨f, l', c1, c2, rfl, h2, h3, h4, h5⟩ := h
    exact ⟨f, l', c1, c2, rfl, h2, h3, OwC.lower hB t h4, OwCs.lower hB r h5⟩
end
theorem flatten_get {sz : Nat} : ∀ (rows : List (List Value)), (∀ j (h : j < rows.length), rows[j].length = sz) → ∀ j (h : j < rows.length) k, k < sz → rows.flatten[j * sz + k]? = rows[j][k]?
  | [], _, j, h, _, _ => by simp at h
  | r :: rs, hl, 0, _, k, hk => by
    have h0 := hl 0 (by simp)
    simp only [List.getElem_cons_zero] at h0
    rw [List.flatten_cons, Nat.zero_mul, Nat.zero_add, List.getElem?_append_left (by omega)]
    rfl
  | r :: rs, hl, j + 1, h, k, hk => by
    have h0 := hl 0 (by simp)
    simp only [List.getElem_cons_zero] at h0
    have := flatten_get rs (fun i hi => by have := hl (i + 1) (by simpa using hi); simpa using this) j (by simpa using h) k hk
    rw [List.flatten_cons, List.getElem?_append_right (by rw [h0, Nat.succ_mul]; omega), h0, show (j + 1) * sz + k - sz = j * sz + k by rw [Nat.succ_mul]; omega]
    exact this
theorem flatten_len {sz : Nat} : ∀ (rows : List (List Value)), (∀ j (h : j < rows.length), rows[j].length = sz) → rows.flatten.length = rows.length * sz
  | [], _ => by simp
  | r :: rs, hl => by
    have h0 := hl 0 (by simp)
    simp only [List.getElem_cons_zero] at h0
    rw [List.flatten_cons, List.length_append, h0, flatten_len rs (fun i hi => by have := hl (i + 1) (by simpa using hi); simpa using this), List.length_cons, Nat.succ_mul]
    omega
theorem row_at {W : World} {B : Nat} {te : TypeId} {sz m : Nat} {v : Value} {xs : List Value} (h : W.ownsRow B te sz v m xs) :
    ∃ (a : Option Addr) (cap b : Nat), v = .slice a m cap ∧ m ≤ cap ∧ cap ≤ maxLen ∧ (0 < m → a = some ⟨b, 0, none⟩ ∧ B ≤ b ∧ b < W.heap.size ∧ ∀ j, j < m * sz → W.cell? ⟨b, j, none⟩ = xs[j]?) := by
  have hc := h
  rcases h.2 with ⟨rfl, rfl⟩ | ⟨g, cap, cur, rfl, h2, h3, h4, h5, h6⟩
  · exact ⟨none, 0, 0, rfl, Nat.le_refl _, Nat.zero_le _, fun h => by omega⟩
  · refine ⟨_, cap, g, rfl, h4, h5, fun _ => ⟨rfl, h2, (Array.getElem?_eq_some_iff.1 h3).1, fun j hj => ?_⟩⟩
    exact hc.cellAt j hj
mutual
theorem OwC.rd {P : Program} {B : Nat} {W : World} : ∀ (t : Ty) {ti : TypeId} {cs : List Value} {d : t.Den}, OwC P B W t ti cs d → RdC W.heap.size W t cs d
  | .int k, _, cs, d, h => h
  | .bool, _, cs, d, h => h
  | .str, _, cs, d, h => h
  | .slice e, ti, cs, d, h => by
    obtain ⟨te, v, hu, rfl, rows, h2, h3, h4⟩ := h
    obtain ⟨a, cap, b, rfl, g1, g2, g3⟩ := row_at h3
    refine ⟨a, cap, b, 0, rfl, g1, g2, fun h => ⟨(g3 h).1, (g3 h).2.2.1⟩, fun j hj => ?_⟩
    have hj' : j < rows.length := by omega
    obtain ⟨k1, k2⟩ := h4 j hj hj'
    refine ⟨rows[j], k1, fun k hk => ?_, OwC.rd e k2⟩
    have hlt : j * e.size + k < d.length * e.size := by
      have : (j + 1) * e.size ≤ d.length * e.size := Nat.mul_le_mul_right _ (by omega)
      rw [Nat.succ_mul] at this; omega
    rw [Nat.zero_add, (g3 (by omega)).2.2.2 _ hlt, flatten_get rows (fun i hi => (h4 i (by omega) hi).1) j hj' k hk]
  | .struct fs, ti, cs, d, h => by
    obtain ⟨Fs, hu, h⟩ := h
    exact OwCs.rd fs h
theorem OwCs.rd {P : Program} {B : Nat} {W : World} : ∀ (fs : Tys) {l : List Field} {cs : List Value} {d : fs.Den}, OwCs P B W fs l cs d → RdCs W.heap.size W fs cs d
  | .nil, l, cs, d, h => h
  | .cons t r, l, cs, d, h => by
    obtain ⟨f, l', c1, c2, rfl, h2, h3, h4, h5⟩ := h
    exact ⟨c1, c2, h2, h3, OwC.rd t h4, OwCs.rd r h5⟩
end
theorem OwL.nil {W : World} {B : Nat} {te : TypeId} {sz : Nat} {α : Type} {ow : List Value → α → Prop} : OwL W B te sz ow (.slice none 0 0) ([] : List α) :=
  ⟨[], rfl, World.ownsRow_nil _ _ _ _, fun j h => by simp at h⟩
/-- behind the append of one element: its row may lie elsewhere now -/
theorem OwL.snoc {P : Program} {W W2 : World} {B : Nat} {te : TypeId} {e : Ty} {v v2 : Value} {l : List e.Den} {rows : List (List Value)} {cs : List Value} {x : e.Den}
    (hr : rows.length = l.length) (hel : ∀ j (h : j < l.length) (h' : j < rows.length), rows[j].length = e.size ∧ OwC P B W e te rows[j] l[j]) (hx : OwC P B W e te cs x) (hcs : cs.length = e.size)
    (hown : W2.ownsRow B te e.size v2 (l.length + 1) (rows.flatten ++ cs)) (hs : Spared B (e.rowsOf P te) W W2) : OwL W2 B te e.size (OwC P B W2 e te) v2 (l ++ [x]) := by
  refine ⟨rows ++ [cs], by simp [hr], ?_, fun j h h' => ?_⟩
  · rw [List.length_append, List.length_singleton, List.flatten_append]
    simpa using hown
  · by_cases hj : j < l.length
    · rw [List.getElem_append_left hj, List.getElem_append_left (by omega)]
      exact ⟨(hel j hj (by omega)).1, OwC.spared e (hel j hj (by omega)).2 hs⟩
    · obtain rfl : j = l.length := by simp at h; omega
      rw [List.getElem_append_right (Nat.le_refl _), List.getElem_append_right (by omega)]
      simp only [Nat.sub_self, List.getElem_cons_zero, hr]
      exact ⟨hcs, OwC.spared e hx hs⟩
end Gn
end Go.Proofs.Ytdaafledkloegaa

/-
  Plain mathematics of chapter 5 (wal): puts, batches, their loads; a load tells its batch. No program is named here.
-/
namespace Go.Proofs.Ytdaafledkloegaa
namespace Cd
/-- what is read as a number is just that number's bytes -/
theorem takeGo_canon (l : List UInt8) : ∀ (i acc n j : Nat), i ≤ 9 → takeGo l i acc = (n, j, 0) → ∃ m, n = acc + m * 128 ^ i ∧ j = i + (putU m).length ∧ l = putU m ++ l.drop (putU m).length ∧ (0 < i → m ≠ 0) := by
  induction l with
  | nil => intro i acc n j _ h; simp [takeGo] at h
  | cons c r ih =>
    intro i acc n j hi h
    by_cases hbad : (i = 9 ∧ 1 < c.toNat) ∨ (0 < i ∧ c.toNat = 0)
    · rw [go_bad hbad] at h; simp at h
    · have hcb := c.toNat_lt
      by_cases hc : c.toNat < 128
      · rw [go_last hbad hc] at h
        have hp : putU c.toNat = [c] := by rw [putU, if_pos hc]; simp
        refine ⟨c.toNat, ?_, ?_, ?_, fun h0 e => hbad (.inr ⟨h0, e⟩)⟩
        · have := congrArg (·.1) h; simp only at this; rw [← this, Nat.mod_eq_of_lt hc]
        · have := congrArg (·.2.1) h; simp only at this; rw [hp]; exact this.symm
        · rw [hp]; rfl
      · rw [go_more hbad (by omega)] at h
        have hi9 : i + 1 ≤ 9 := by
          by_cases h9 : i = 9
          · exact absurd (.inl ⟨h9, by omega⟩) hbad
          · omega
        obtain ⟨m', h1, h2, h3, h4⟩ := ih (i + 1) _ n j hi9 h
        have hm0 := h4 (by omega)
        refine ⟨c.toNat % 128 + 128 * m', ?_, ?_, ?_, fun _ => by omega⟩
        · rw [h1, pow_s, Nat.add_mul, ← Nat.add_assoc]; congr 1; rw [← Nat.mul_assoc, Nat.mul_comm m' 128]
        · have e : putU (c.toNat % 128 + 128 * m') = UInt8.ofNat ((c.toNat % 128 + 128 * m') % 128 + 128) :: putU ((c.toNat % 128 + 128 * m') / 128) := by rw [putU, if_neg (by omega)]
          rw [e, show (c.toNat % 128 + 128 * m') / 128 = m' by omega, List.length_cons, h2]; omega
        · have e : putU (c.toNat % 128 + 128 * m') = UInt8.ofNat ((c.toNat % 128 + 128 * m') % 128 + 128) :: putU ((c.toNat % 128 + 128 * m') / 128) := by rw [putU, if_neg (by omega)]
          have ec : UInt8.ofNat ((c.toNat % 128 + 128 * m') % 128 + 128) = c := by
            rw [show (c.toNat % 128 + 128 * m') % 128 + 128 = c.toNat by omega]; simp
          rw [e, ec, show (c.toNat % 128 + 128 * m') / 128 = m' by omega, List.length_cons, List.drop_succ_cons, List.cons_append, ← h3]
theorem takeU_canon {l : List UInt8} {n k : Nat} (h : takeU l = (n, k, 0)) : l = putU n ++ l.drop k := by
  obtain ⟨m, h1, h2, h3, _⟩ := takeGo_canon l 0 0 n k (by omega) h
  obtain rfl : n = m := by simpa using h1
  rw [show k = (putU n).length by omega]
  exact h3
theorem takeT_canon {l t : List UInt8} {most : Int} {k : Nat} (h : takeT l most = (t, k, 0)) : l = putT t ++ l.drop k := by
  obtain ⟨n, k0, e, hu⟩ : ∃ n k0 e, takeU l = (n, k0, e) := ⟨_, _, _, rfl⟩
  by_cases he : e = 0
  · subst he
    have hl := (takeU_ok l).2.2.1
    rw [hu] at hl
    simp only at hl
    by_cases h1 : most.toNat < n
    · rw [takeT_most hu h1] at h; simp at h
    · by_cases h2 : l.length - k0 < n
      · rw [takeT_more hu (by omega) h2] at h; simp at h
      · rw [takeT_text hu (by omega) (by omega)] at h
        obtain rfl : (l.drop k0).take n = t := congrArg (·.1) h
        obtain rfl : k0 + n = k := congrArg (·.2.1) h
        have hc := takeU_canon hu
        unfold putT
        have hlen : ((l.drop k0).take n).length = n := by rw [List.length_take, List.length_drop]; omega
        rw [hlen, List.append_assoc, ← List.drop_drop, List.take_append_drop]
        exact hc
  · rw [takeT_err hu he] at h
    exact absurd (congrArg (·.2.2) h) he
end Cd

namespace Wa
open Fi (Dat TkS tkNum tkText)
abbrev putT : Gn.Ty := .struct (.cons .str (.cons .str (.cons .bool .nil)))
abbrev batchT : Gn.Ty := .struct (.cons (.int .u64) (.cons (.slice putT) .nil))
/-- a put: its key, its value, whether it takes away -/
abbrev Pt := List UInt8 × List UInt8 × Bool × Unit
abbrev Bt := Int × List Pt × Unit
/-- P5.2: may a put be? -/
def mayB (p : Pt) : Bool := decide (1 ≤ p.1.length) && decide (p.1.length ≤ 96) && decide (p.2.1.length ≤ 16384) && (!p.2.2.1 || decide (p.2.1 = []))
/-- P5.3: a put as bytes -/
def putB (p : Pt) : Dat := if p.2.2.1 = true then 1 :: Cd.putT p.1 else 0 :: (Cd.putT p.1 ++ Cd.putT p.2.1)
def load (seq : Nat) (l : List Pt) : Dat := Cd.putU seq ++ Cd.putU l.length ++ l.flatMap putB
def MaxSeq : Nat := 1125899906842624
/-- P5.2: Check -/
def check (l : List Pt) : Nat := if l.length ≤ 256 ∧ (∀ p ∈ l, mayB p = true) ∧ (load MaxSeq l).length ≤ 262144 then 0 else 1
/-- P5.3: may a batch be? -/
def Right (b : Bt) : Prop := check b.2.1 = 0 ∧ 0 < b.2.1.length ∧ 1 ≤ b.1 ∧ b.1 ≤ MaxSeq ∧ b.1 + b.2.1.length - 1 ≤ MaxSeq
instance (b : Bt) : Decidable (Right b) := by unfold Right; infer_instance
/-- P5.3: Encode -/
def encode (b : Bt) : Dat × Nat := if Right b then Fr.put 2 (load b.1.toNat b.2.1) else ([], 1)
def IsLoad (l : Dat) (b : Bt) : Prop := Right b ∧ load b.1.toNat b.2.1 = l
open Classical in
/-- P5.4: Decode -/
noncomputable def decode (l : Dat) : Option Bt := if h : ∃ b, IsLoad l b then some h.choose else none
def last (b : Bt) : Int := b.1 + b.2.1.length - 1
/-- P5.5, over the frames that stand one behind the other: each with its place; the place behind all -/
noncomputable def repGo : List (Nat × (UInt8 × Dat)) → Int → Nat → List Bt × Nat
  | [], _, e => ([], e)
  | x :: r, seq, e =>
    match (if x.2.1 = 2 then decode x.2.2 else none) with
    | some b => if seq < b.1 then (b :: (repGo r (last b) e).1, (repGo r (last b) e).2) else ([], x.1)
    | none => ([], x.1)
noncomputable def replay (s : Dat) : List Bt × Nat := repGo (Fr.allGo s 0).1 0 (Fr.allGo s 0).2

/-! ### a load tells its batch -/
theorem putB_inj {p q : Pt} {x y : Dat} (hp : mayB p = true) (hq : mayB q = true) (h : putB p ++ x = putB q ++ y) : p = q ∧ x = y := by
  obtain ⟨pk, pv, pd, _⟩ := p
  obtain ⟨qk, qv, qd, _⟩ := q
  simp [mayB] at hp hq
  cases pd <;> cases qd <;> simp only [putB, if_true, if_false, Bool.false_eq_true, List.cons_append] at h
  · have h' := List.cons.inj h
    have h2 := h'.2
    rw [List.append_assoc, List.append_assoc] at h2
    obtain ⟨e1, h3⟩ := Fi.putT_inj (by omega) (by omega) h2
    obtain ⟨e2, h4⟩ := Fi.putT_inj (by omega) (by omega) h3
    exact ⟨by rw [e1, e2], h4⟩
  · exact absurd (List.cons.inj h).1 (by decide)
  · exact absurd (List.cons.inj h).1 (by decide)
  · obtain ⟨e1, h3⟩ := Fi.putT_inj (by omega) (by omega) (List.cons.inj h).2
    have v1 := hp.2
    have v2 := hq.2
    simp at v1 v2
    exact ⟨by rw [e1, v1, v2], h3⟩
theorem puts_inj : ∀ {L L' : List Pt} {x y : Dat}, L.length = L'.length → (∀ p ∈ L, mayB p = true) → (∀ p ∈ L', mayB p = true) → L.flatMap putB ++ x = L'.flatMap putB ++ y → L = L' ∧ x = y
  | [], [], x, y, _, _, _, h => ⟨rfl, by simpa using h⟩
  | [], q :: r, _, _, hl, _, _, _ => by simp at hl
  | p :: r, [], _, _, hl, _, _, _ => by simp at hl
  | p :: r, q :: r', x, y, hl, hp, hq, h => by
    rw [List.flatMap_cons, List.flatMap_cons, List.append_assoc, List.append_assoc] at h
    obtain ⟨h1, h2⟩ := putB_inj (hp p (List.mem_cons_self ..)) (hq q (List.mem_cons_self ..)) h
    obtain ⟨h3, h4⟩ := puts_inj (by simpa using hl) (fun z hz => hp z (List.mem_cons_of_mem _ hz)) (fun z hz => hq z (List.mem_cons_of_mem _ hz)) h2
    exact ⟨by rw [h1, h3], h4⟩
theorem check_ok {l : List Pt} (h : check l = 0) : l.length ≤ 256 ∧ (∀ p ∈ l, mayB p = true) ∧ (load MaxSeq l).length ≤ 262144 := by
  unfold check at h
  split at h
  · assumption
  · cases h
theorem isLoad_same {l : Dat} {b c : Bt} (h1 : IsLoad l b) (h2 : IsLoad l c) : b = c := by
  obtain ⟨⟨r1, r2, r3, r4, r5⟩, e1⟩ := h1
  obtain ⟨⟨s1, s2, s3, s4, s5⟩, e2⟩ := h2
  obtain ⟨bs, bp, _⟩ := b
  obtain ⟨cs, cp, _⟩ := c
  simp only at *
  obtain ⟨k1, k2, _⟩ := check_ok r1
  obtain ⟨m1, m2, _⟩ := check_ok s1
  have hM : MaxSeq = 1125899906842624 := rfl
  rw [← e2] at e1
  unfold load at e1
  rw [List.append_assoc, List.append_assoc] at e1
  obtain ⟨a1, a2⟩ := Fi.putU_inj (by omega) (by omega) e1
  obtain ⟨b1, b2⟩ := Fi.putU_inj (by omega) (by omega) a2
  obtain ⟨c1, _⟩ := puts_inj (x := []) (y := []) b1 k2 m2 (by simpa using b2)
  rw [c1, show bs = cs by omega]
theorem decode_iff {l : Dat} {b : Bt} : decode l = some b ↔ IsLoad l b := by
  unfold decode
  constructor
  · intro h
    split at h
    · rename_i hx
      rw [← Option.some.inj h]
      exact hx.choose_spec
    · cases h
  · intro h
    have hx : ∃ b, IsLoad l b := ⟨b, h⟩
    rw [dif_pos hx]
    exact congrArg some (isLoad_same hx.choose_spec h)
theorem decode_none {l : Dat} : decode l = none ↔ ∀ b, ¬ IsLoad l b := by
  unfold decode
  constructor
  · intro h b hb
    rw [dif_pos ⟨b, hb⟩] at h
    cases h
  · intro h
    rw [dif_neg (fun ⟨b, hb⟩ => h b hb)]

/-! ### reading one, thing by thing, as the document does -/
def rdPut (s : TkS) : Pt × TkS :=
  if (tkNum 1 s).1 = 0 then (((tkText 96 (tkNum 1 s).2).1, (tkText 16384 (tkText 96 (tkNum 1 s).2).2).1, false, ()), (tkText 16384 (tkText 96 (tkNum 1 s).2).2).2)
  else (((tkText 96 (tkNum 1 s).2).1, [], true, ()), (tkText 96 (tkNum 1 s).2).2)
def rdPuts : Nat → List Pt → TkS → List Pt × TkS
  | 0, l, s => (l, s)
  | k + 1, l, s => if s.2 = true then (l, s) else rdPuts k (l ++ [(rdPut s).1]) (rdPut s).2
def rdCount (s : TkS) : Nat × TkS := tkNum 256 (tkNum MaxSeq s).2
def rdAll (s : TkS) : List Pt × TkS := rdPuts (rdCount s).1 [] (rdCount s).2
def rdB (l : Dat) : Bt := (((tkNum MaxSeq (l, false)).1 : Int), (rdAll (l, false)).1, ())
def decR (l : Dat) : Option Bt := if (rdAll (l, false)).2 = ([], false) ∧ Right (rdB l) then some (rdB l) else none

theorem tkNum_sound {most : Nat} {s : TkS} (h : (tkNum most s).2.2 = false) : s.2 = false ∧ s.1 = Cd.putU (tkNum most s).1 ++ (tkNum most s).2.1 := by
  unfold tkNum at h ⊢
  split at h
  · simp at h
  · rename_i hx
    rw [if_neg hx]
    simp only at h ⊢
    refine ⟨h, Cd.takeU_canon (k := (Cd.takeU s.1).2.1) ?_⟩
    have h0 : (Cd.takeU s.1).2.2 = 0 := by
      by_cases h0 : (Cd.takeU s.1).2.2 = 0
      · exact h0
      · exact absurd (.inr (.inl h0)) hx
    rw [← h0]
theorem tkText_sound {most : Nat} {s : TkS} (h : (tkText most s).2.2 = false) : s.2 = false ∧ s.1 = Cd.putT (tkText most s).1 ++ (tkText most s).2.1 := by
  unfold tkText at h ⊢
  split at h
  · simp at h
  · rename_i hx
    rw [if_neg hx]
    simp only at h ⊢
    refine ⟨h, Cd.takeT_canon (most := most) (k := (Cd.takeT s.1 most).2.1) ?_⟩
    have h0 : (Cd.takeT s.1 most).2.2 = 0 := by
      by_cases h0 : (Cd.takeT s.1 most).2.2 = 0
      · exact h0
      · exact absurd (.inr h0) hx
    rw [← h0]
theorem putU_0 : Cd.putU 0 = [0] := by rw [Cd.putU]; rfl
theorem putU_1 : Cd.putU 1 = [1] := by rw [Cd.putU]; rfl
theorem rdPut_sound {s : TkS} (h : (rdPut s).2.2 = false) : s.2 = false ∧ s.1 = putB (rdPut s).1 ++ (rdPut s).2.1 := by
  unfold rdPut at h ⊢
  split at h
  · rename_i hx
    rw [if_pos hx]
    simp only at h ⊢
    obtain ⟨h1, e1⟩ := tkText_sound h
    obtain ⟨h2, e2⟩ := tkText_sound h1
    obtain ⟨h3, e3⟩ := tkNum_sound h2
    refine ⟨h3, ?_⟩
    rw [hx, putU_0] at e3
    rw [e3, e2, e1]
    simp [putB]
  · rename_i hx
    rw [if_neg hx]
    simp only at h ⊢
    obtain ⟨h2, e2⟩ := tkText_sound h
    obtain ⟨h3, e3⟩ := tkNum_sound h2
    have hle := Fi.tkNum_le 1 s
    refine ⟨h3, ?_⟩
    rw [show (tkNum 1 s).1 = 1 by omega, putU_1] at e3
    rw [e3, e2]
    simp [putB]
theorem rdPuts_sound : ∀ (k : Nat) (l : List Pt) (s : TkS), (rdPuts k l s).2.2 = false → s.2 = false ∧ ∃ L, (rdPuts k l s).1 = l ++ L ∧ L.length = k ∧ s.1 = L.flatMap putB ++ (rdPuts k l s).2.1
  | 0, l, s, h => ⟨h, [], by simp [rdPuts], rfl, by simp [rdPuts]⟩
  | k + 1, l, s, h => by
    rw [rdPuts] at h ⊢
    split at h
    · rename_i hs; rw [hs] at h; cases h
    · rename_i hs
      rw [if_neg hs]
      obtain ⟨h1, L, e1, e2, e3⟩ := rdPuts_sound k _ _ h
      obtain ⟨h2, e4⟩ := rdPut_sound h1
      exact ⟨h2, (rdPut s).1 :: L, by rw [e1, List.append_assoc]; rfl, by rw [List.length_cons, e2], by rw [List.flatMap_cons, List.append_assoc, ← e3]; exact e4⟩
theorem rdPut_put {p : Pt} {x : Dat} (hp : mayB p = true) : rdPut (putB p ++ x, false) = (p, (x, false)) := by
  obtain ⟨pk, pv, pd, _⟩ := p
  simp [mayB] at hp
  cases pd
  · have e1 : tkNum 1 (putB (pk, pv, false, ()) ++ x, false) = (0, (Cd.putT pk ++ (Cd.putT pv ++ x), false)) := by
      have := Fi.tkNum_put (most := 1) (a := 0) (Cd.putT pk ++ (Cd.putT pv ++ x)) (by omega) (by omega)
      rw [putU_0] at this
      simpa [putB] using this
    unfold rdPut
    rw [e1]
    simp only [if_true]
    rw [Fi.tkText_put _ (by omega) (by omega)]
    simp only
    rw [Fi.tkText_put _ (by omega) (by omega)]
  · have e1 : tkNum 1 (putB (pk, pv, true, ()) ++ x, false) = (1, (Cd.putT pk ++ x, false)) := by
      have := Fi.tkNum_put (most := 1) (a := 1) (Cd.putT pk ++ x) (by omega) (by omega)
      rw [putU_1] at this
      simpa [putB] using this
    unfold rdPut
    rw [e1]
    simp only
    rw [if_neg (by omega), Fi.tkText_put _ (by omega) (by omega)]
    have := hp.2
    simp at this
    rw [this]
theorem rdPuts_put : ∀ (L l : List Pt) (x : Dat), (∀ p ∈ L, mayB p = true) → rdPuts L.length l (L.flatMap putB ++ x, false) = (l ++ L, (x, false))
  | [], l, x, _ => by simp [rdPuts]
  | p :: r, l, x, h => by
    rw [List.length_cons, rdPuts, if_neg (by simp), List.flatMap_cons, List.append_assoc, rdPut_put (h p (List.mem_cons_self ..))]
    simp only
    rw [rdPuts_put r _ x (fun q hq => h q (List.mem_cons_of_mem _ hq)), List.append_assoc]
    rfl
theorem decR_decode (l : Dat) : decR l = decode l := by
  have hM : MaxSeq = 1125899906842624 := rfl
  cases hd : decode l with
  | some b =>
    obtain ⟨hr, hl⟩ := decode_iff.1 hd
    have hr0 := hr
    obtain ⟨r1, r2, r3, r4, r5⟩ := hr
    obtain ⟨k1, k2, _⟩ := check_ok r1
    have e1 : tkNum MaxSeq (l, false) = (b.1.toNat, (Cd.putU b.2.1.length ++ (b.2.1.flatMap putB ++ []), false)) := by
      rw [← hl]; unfold load
      rw [List.append_assoc, List.append_nil]
      exact Fi.tkNum_put _ (by omega) (by omega)
    have e2 : rdCount (l, false) = (b.2.1.length, (b.2.1.flatMap putB ++ [], false)) := by
      unfold rdCount
      rw [e1]
      exact Fi.tkNum_put _ k1 (by omega)
    have e3 : rdAll (l, false) = (b.2.1, ([], false)) := by
      unfold rdAll
      rw [e2]
      have := rdPuts_put b.2.1 [] [] k2
      simpa using this
    have e4 : rdB l = b := by
      unfold rdB
      rw [e3, e1]
      obtain ⟨bs, bp, _⟩ := b
      simp only at r3 ⊢
      rw [show ((bs.toNat : Nat) : Int) = bs by omega]
    unfold decR
    rw [e3, e4, if_pos ⟨rfl, hr0⟩]
  | none =>
    have hn := decode_none.1 hd
    unfold decR
    split
    · rename_i h
      refine absurd ⟨h.2, ?_⟩ (hn (rdB l))
      have h1 := h.1
      have hb : (rdPuts (rdCount (l, false)).1 [] (rdCount (l, false)).2).2.2 = false := congrArg (·.2) h1
      obtain ⟨g1, L, g2, g3, g4⟩ := rdPuts_sound _ _ _ hb
      have hrest : (rdPuts (rdCount (l, false)).1 [] (rdCount (l, false)).2).2.1 = [] := congrArg (·.1) h1
      rw [hrest, List.append_nil] at g4
      obtain ⟨g5, g6⟩ := tkNum_sound (s := (tkNum MaxSeq (l, false)).2) (most := 256) g1
      obtain ⟨_, g7⟩ := tkNum_sound (s := (l, false)) (most := MaxSeq) g5
      have hL : (rdB l).2.1 = L := by unfold rdB rdAll; rw [g2]; rfl
      unfold load
      rw [hL]
      show Cd.putU (((tkNum MaxSeq (l, false)).1 : Int)).toNat ++ Cd.putU L.length ++ L.flatMap putB = l
      have g7' : l = Cd.putU (tkNum MaxSeq (l, false)).1 ++ (tkNum MaxSeq (l, false)).2.1 := g7
      have hk : L.length = (tkNum 256 (tkNum MaxSeq (l, false)).2).1 := g3
      rw [Int.toNat_natCast, hk, List.append_assoc, ← g4]
      exact (congrArg (Cd.putU (tkNum MaxSeq (l, false)).1 ++ ·) g6).symm.trans g7'.symm
    · rfl
end Wa
end Go.Proofs.Ytdaafledkloegaa
