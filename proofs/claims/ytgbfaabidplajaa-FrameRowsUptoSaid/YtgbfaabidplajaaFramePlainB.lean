/-
  Plain mathematics of P2.5: what was put is taken; no beginning of it is a frame; one byte turned is seen; frames one behind the other.
-/
import Derived.Test.YtgbfaabidplajaaFramePlain
import Derived.Test.YtgbfaabidplajaaCodecPlainC
namespace Go.Proofs.Ytgbfaabidplajaa
namespace Fr
open Go.RowKit

/-! what was put is taken -/
theorem takeT_putT' (s r : List UInt8) (m : Int) (h : s.length < 18446744073709551616) (hm : s.length ≤ m.toNat) : Cd.takeT (Cd.putT s ++ r) m = (s, (Cd.putT s).length, 0) := by
  have hu := Cd.takeU_putU s.length (s ++ r) h
  have e : Cd.putT s ++ r = Cd.putU s.length ++ (s ++ r) := by rw [Cd.putT, List.append_assoc]
  rw [e, Cd.takeT_text hu hm (by simp)]
  simp [Cd.putT]
theorem lit4 (n : Nat) (x : List UInt8) : (lit n ++ x).take 4 = lit n := by rw [List.take_left' (lit_len n)]
theorem lit4d (n : Nat) (x : List UInt8) : (lit n ++ x).drop 4 = x := by rw [List.drop_left' (lit_len n)]
theorem lit5d (n : Nat) (c : UInt8) (x : List UInt8) : (lit n ++ c :: x).drop 5 = x := by
  have : (lit n ++ c :: x).drop 5 = ((lit n ++ c :: x).drop 4).drop 1 := by rw [List.drop_drop]
  rw [this, lit4d]; rfl
theorem lit4g (n : Nat) (c : UInt8) (x : List UInt8) : (lit n ++ c :: x).getD 4 0 = c := by
  rw [List.getD_eq_getElem?_getD, List.getElem?_append_right (by rw [lit_len]; omega), lit_len]; rfl
theorem litlen (n : Nat) (c : UInt8) (x : List UInt8) : (lit n ++ c :: x).length = 5 + x.length := by rw [List.length_append, lit_len, List.length_cons]; omega
/-- whatever stands in the sum's place: the frame is there just where the sum is the right one -/
theorem take_form {n : Nat} {c : UInt8} {l r : List UInt8} (hc : ¬ c.toNat = 0) (hl : l.length ≤ 262144) :
    take (lit n ++ c :: (Cd.putT l ++ r)) = if lit (sum (c :: Cd.putT l)) = lit n then ((c, l), 5 + (Cd.putT l).length, 0) else ((0, []), 0, 3) := by
  have ht := takeT_putT' l r 262144 (by omega) (by simpa using hl)
  have h5 : 5 ≤ (lit n ++ c :: (Cd.putT l ++ r)).length := by rw [litlen]; omega
  have h0 : ¬ ((lit n ++ c :: (Cd.putT l ++ r)).getD 4 0).toNat = 0 := by rw [lit4g]; exact hc
  have hr : ((lit n ++ c :: (Cd.putT l ++ r)).drop 4).take ((Cd.putT l).length + 1) = c :: Cd.putT l := by rw [lit4d, List.take_succ_cons, List.take_left' rfl]
  by_cases hs : lit (sum (c :: Cd.putT l)) = lit n
  · rw [take_ok (t := l) (n := (Cd.putT l).length) h5 h0 (by rw [lit5d]; exact ht) (by rw [hr, lit4]; exact hs), if_pos hs, lit4g]
  · rw [take_bad (t := l) (n := (Cd.putT l).length) h5 h0 (by rw [lit5d]; exact ht) (by rw [hr, lit4]; exact hs), if_neg hs]
theorem take_put {c : UInt8} {l r : List UInt8} (hc : ¬ c.toNat = 0) (hl : l.length ≤ 262144) :
    take ((put c l).1 ++ r) = ((c, l), (put c l).1.length, 0) := by
  have e : (lit (sum (c :: Cd.putT l)) ++ c :: Cd.putT l) ++ r = lit (sum (c :: Cd.putT l)) ++ c :: (Cd.putT l ++ r) := by simp
  rw [put_ok hc hl]
  show take ((lit (sum (c :: Cd.putT l)) ++ c :: Cd.putT l) ++ r) = _
  rw [e, take_form hc hl, if_pos rfl]
  show _ = ((c, l), (lit (sum (c :: Cd.putT l)) ++ c :: Cd.putT l).length, 0)
  rw [litlen]

/-! no beginning is a frame -/
theorem takeGo_cut (m : Nat) : ∀ (i acc k : Nat), i ≤ 9 → m * 128 ^ i < 18446744073709551616 → (0 < i → 1 ≤ m) → k < (Cd.putU m).length → Cd.takeGo ((Cd.putU m).take k) i acc = (0, 0, 2) := by
  induction m using Nat.strongRecOn with
  | ind m ih =>
    intro i acc k hi hm h1 hk
    cases k with
    | zero => simp [Cd.takeGo]
    | succ k =>
      have h9 : (128 : Nat) ^ 9 = 9223372036854775808 := by decide
      by_cases h : m < 128
      · rw [Cd.putU_last h] at hk; simp at hk
      · have e := Cd.ofNat_low (m := m % 128 + 128) (by omega)
        have hi8 : i ≠ 9 := by
          rintro rfl
          have : 128 * 128 ^ 9 ≤ m * 128 ^ 9 := Nat.mul_le_mul_right _ (by omega)
          omega
        rw [Cd.putU_more (by omega), List.length_cons] at hk
        rw [Cd.putU_more (by omega), List.take_succ_cons, Cd.go_more (by rw [e]; omega) (by rw [e]; omega)]
        have hs := Cd.put_step (m := m) (k := i) (Nat.le_refl _)
        exact ih (m / 128) (by omega) (i + 1) _ k (by omega) (by omega) (by omega) (by omega)
theorem takeU_cut (m k : Nat) (h : m < 18446744073709551616) (hk : k < (Cd.putU m).length) : Cd.takeU ((Cd.putU m).take k) = (0, 0, 2) :=
  takeGo_cut m 0 0 k (by omega) (by simpa using h) (by omega) hk
theorem takeT_cut (l : List UInt8) (k : Nat) (hl : l.length ≤ 262144) (hk : k < (Cd.putT l).length) : Cd.takeT ((Cd.putT l).take k) 262144 = ([], 0, 2) := by
  unfold Cd.putT at hk ⊢
  rw [List.length_append] at hk
  by_cases h : k < (Cd.putU l.length).length
  · rw [List.take_append_of_le_length (by omega)]
    exact Cd.takeT_err (takeU_cut _ _ (by omega) h) (by omega)
  · rw [List.take_append, List.take_of_length_le (by omega)]
    have hu := Cd.takeU_putU l.length (l.take (k - (Cd.putU l.length).length)) (by omega)
    exact Cd.takeT_more hu (by simpa using hl) (by rw [List.length_append, List.length_take]; omega)
theorem take_cut {c : UInt8} {l : List UInt8} (hc : ¬ c.toNat = 0) (hl : l.length ≤ 262144) (k : Nat) (hk : k < (put c l).1.length) : (take ((put c l).1.take k)).2.2 = 2 := by
  rw [put_ok hc hl] at hk ⊢
  simp only at hk ⊢
  rw [litlen] at hk
  by_cases h5 : k < 5
  · rw [take_few (by rw [List.length_take]; omega)]
  · have e : (lit (sum (c :: Cd.putT l)) ++ c :: Cd.putT l).take k = lit (sum (c :: Cd.putT l)) ++ c :: (Cd.putT l).take (k - 5) := by
      rw [List.take_append, List.take_of_length_le (by rw [lit_len]; omega), lit_len, show k - 4 = (k - 5) + 1 from by omega, List.take_succ_cons]
    rw [e, take_err (t := []) (n := 0) (e := 2) (by rw [litlen]; omega) (by rw [lit4g]; exact hc) (by rw [lit5d]; exact takeT_cut l (k - 5) hl (by omega)) (by omega)]

/-! one byte turned is seen -/
theorem xor_cancel {a b p : Nat} (h : a ^^^ p = b ^^^ p) : a = b := by
  have h2 := congrArg (· ^^^ p) h
  simpa [Nat.xor_assoc] using h2
theorem xor_cancel_l {a b p : Nat} (h : p ^^^ a = p ^^^ b) : a = b := xor_cancel (p := p) (by rw [Nat.xor_comm a p, Nat.xor_comm b p]; exact h)
theorem step_mixed {a b : Nat} (ha : a < 4294967296) (hb : b < 4294967296) (h : a / 2 ^^^ 3988292384 = b / 2) : False := by
  have h2 : 3988292384 = a / 2 ^^^ b / 2 := by rw [← h, ← Nat.xor_assoc, Nat.xor_self, Nat.zero_xor]
  have h3 : a / 2 ^^^ b / 2 < 2 ^ 31 := Nat.xor_lt_two_pow (by omega) (by omega)
  omega
theorem step_inj {a b : Nat} (ha : a < 4294967296) (hb : b < 4294967296) (h : step a = step b) : a = b := by
  by_cases oa : a % 2 = 1
  · by_cases ob : b % 2 = 1
    · rw [step_odd oa, step_odd ob] at h
      have := xor_cancel h; omega
    · rw [step_odd oa, step_even ob] at h
      exact (step_mixed ha hb h).elim
  · by_cases ob : b % 2 = 1
    · rw [step_even oa, step_odd ob] at h
      exact (step_mixed hb ha h.symm).elim
    · rw [step_even oa, step_even ob] at h; omega
theorem steps_inj {a b : Nat} (ha : a < 4294967296) (hb : b < 4294967296) : ∀ k, steps k a = steps k b → a = b
  | 0, h => h
  | k + 1, h => steps_inj ha hb k (step_inj (steps_lt ha k) (steps_lt hb k) h)
theorem byte_inj {a b : Nat} (ha : a < 4294967296) (hb : b < 4294967296) (c : UInt8) (h : byte a c = byte b c) : a = b := by
  have hc := c.toNat_lt
  exact xor_cancel (steps_inj (xor_lt32 ha (by omega)) (xor_lt32 hb (by omega)) 8 h)
theorem byte_inj_c {a : Nat} (ha : a < 4294967296) {c d : UInt8} (h : byte a c = byte a d) : c = d := by
  have hc := c.toNat_lt
  have hd := d.toNat_lt
  exact UInt8.toNat_inj.1 (xor_cancel_l (steps_inj (xor_lt32 ha (by omega)) (xor_lt32 ha (by omega)) 8 h))
theorem run_inj (l : List UInt8) : ∀ {a b : Nat}, a < 4294967296 → b < 4294967296 → run a l = run b l → a = b := by
  induction l with
  | nil => intro a b _ _ h; exact h
  | cons c l ih => intro a b ha hb h; exact byte_inj ha hb c (ih (byte_lt ha c) (byte_lt hb c) h)
theorem sum_turned {a b : List UInt8} {c d : UInt8} (h : c ≠ d) : sum (a ++ c :: b) ≠ sum (a ++ d :: b) := by
  intro e
  unfold sum at e
  have e2 := xor_cancel_l e
  rw [run_app, run_app] at e2
  have hr := run_lt a (n := 4294967295) (by omega)
  exact h (byte_inj_c hr (run_inj b (byte_lt hr c) (byte_lt hr d) e2))

/-- whatever four bytes stand in the sum's place -/
theorem take_form4 {h : List UInt8} {c : UInt8} {l r : List UInt8} (hh : h.length = 4) (hc : ¬ c.toNat = 0) (hl : l.length ≤ 262144) :
    take (h ++ c :: (Cd.putT l ++ r)) = if lit (sum (c :: Cd.putT l)) = h then ((c, l), 5 + (Cd.putT l).length, 0) else ((0, []), 0, 3) := by
  have ht := takeT_putT' l r 262144 (by omega) (by simpa using hl)
  have hlen : (h ++ c :: (Cd.putT l ++ r)).length = 5 + (Cd.putT l ++ r).length := by rw [List.length_append, hh, List.length_cons]; omega
  have h4 : (h ++ c :: (Cd.putT l ++ r)).take 4 = h := List.take_left' hh
  have h4d : (h ++ c :: (Cd.putT l ++ r)).drop 4 = c :: (Cd.putT l ++ r) := List.drop_left' hh
  have h5d : (h ++ c :: (Cd.putT l ++ r)).drop 5 = Cd.putT l ++ r := by
    have : (h ++ c :: (Cd.putT l ++ r)).drop 5 = ((h ++ c :: (Cd.putT l ++ r)).drop 4).drop 1 := by rw [List.drop_drop]
    rw [this, h4d]; rfl
  have hg : (h ++ c :: (Cd.putT l ++ r)).getD 4 0 = c := by
    rw [List.getD_eq_getElem?_getD, List.getElem?_append_right (by omega), hh]; rfl
  have h5 : 5 ≤ (h ++ c :: (Cd.putT l ++ r)).length := by omega
  have h0 : ¬ ((h ++ c :: (Cd.putT l ++ r)).getD 4 0).toNat = 0 := by rw [hg]; exact hc
  have hr : ((h ++ c :: (Cd.putT l ++ r)).drop 4).take ((Cd.putT l).length + 1) = c :: Cd.putT l := by rw [h4d, List.take_succ_cons, List.take_left' rfl]
  by_cases hs : lit (sum (c :: Cd.putT l)) = h
  · rw [take_ok (t := l) (n := (Cd.putT l).length) h5 h0 (by rw [h5d]; exact ht) (by rw [hr, h4]; exact hs), if_pos hs, hg]
  · rw [take_bad (t := l) (n := (Cd.putT l).length) h5 h0 (by rw [h5d]; exact ht) (by rw [hr, h4]; exact hs), if_neg hs]
/-- a frame of which one byte, in its sum, its kind or its load, is another one is refused -/
theorem take_turned {c : UInt8} {l : List UInt8} (hc : ¬ c.toNat = 0) (hl : l.length ≤ 262144) (p : Nat) (x : UInt8) (hp : p < (put c l).1.length) (hpl : p ≤ 4 ∨ (put c l).1.length - l.length ≤ p) (hx : x ≠ (put c l).1.getD p 0) :
    (take ((put c l).1.set p x)).2.2 = 3 := by
  rw [put_ok hc hl] at hp hpl hx ⊢
  simp only at hp hpl hx ⊢
  rw [litlen] at hp hpl
  rcases Nat.lt_trichotomy p 4 with h | h | h
  · have e : (lit (sum (c :: Cd.putT l)) ++ c :: Cd.putT l).set p x = (lit (sum (c :: Cd.putT l))).set p x ++ c :: (Cd.putT l ++ []) := by
      rw [List.set_append_left _ _ (by rw [lit_len]; exact h), List.append_nil]
    rw [e, take_form4 (by rw [List.length_set, lit_len]) hc hl, if_neg]
    intro he
    apply hx
    have := congrArg (fun z => z.getD p 0) he
    simp only [List.getD_eq_getElem?_getD] at this ⊢
    rw [List.getElem?_set_self (by rw [lit_len]; exact h)] at this
    rw [List.getElem?_append_left (by rw [lit_len]; exact h), this]; rfl
  · subst h
    have e : (lit (sum (c :: Cd.putT l)) ++ c :: Cd.putT l).set 4 x = lit (sum (c :: Cd.putT l)) ++ x :: (Cd.putT l ++ []) := by
      rw [List.set_append_right _ _ (by rw [lit_len]; omega), lit_len, List.append_nil]; rfl
    rw [lit4g] at hx
    rw [e]
    by_cases h0 : x.toNat = 0
    · rw [take_zero (by rw [litlen]; omega) (by rw [lit4g]; exact h0)]
    · rw [take_form h0 hl, if_neg]
      intro he
      have := lit_inj (sum_lt _) (sum_lt _) he
      exact sum_turned (a := []) (b := Cd.putT l) hx this
  · obtain ⟨q, hq⟩ : ∃ q, q = p - 5 - (Cd.putU l.length).length := ⟨_, rfl⟩
    have hpt : (Cd.putT l).length = (Cd.putU l.length).length + l.length := by rw [Cd.putT, List.length_append]
    have hql : q < l.length := by omega
    have hpq : p = 4 + 1 + ((Cd.putU l.length).length + q) := by omega
    have hlen : (l.set q x).length = l.length := List.length_set
    have e : (lit (sum (c :: Cd.putT l)) ++ c :: Cd.putT l).set p x = lit (sum (c :: Cd.putT l)) ++ c :: (Cd.putT (l.set q x) ++ []) := by
      rw [List.set_append_right _ _ (by rw [lit_len]; omega), lit_len, show p - 4 = ((Cd.putU l.length).length + q) + 1 from by omega, List.set_cons_succ, List.append_nil]
      unfold Cd.putT
      rw [hlen, List.set_append_right _ _ (by omega), show (Cd.putU l.length).length + q - (Cd.putU l.length).length = q from by omega]
    have hg : (lit (sum (c :: Cd.putT l)) ++ c :: Cd.putT l).getD p 0 = l[q] := by
      rw [List.getD_eq_getElem?_getD, List.getElem?_append_right (by rw [lit_len]; omega), lit_len, show p - 4 = ((Cd.putU l.length).length + q) + 1 from by omega, List.getElem?_cons_succ]
      unfold Cd.putT
      rw [List.getElem?_append_right (by omega), show (Cd.putU l.length).length + q - (Cd.putU l.length).length = q from by omega, List.getElem?_eq_getElem hql]; rfl
    rw [hg] at hx
    rw [e, take_form hc (by rw [hlen]; exact hl), if_neg]
    intro he
    have hs := lit_inj (sum_lt _) (sum_lt _) he
    have e1 : l.set q x = l.take q ++ x :: l.drop (q + 1) := List.set_eq_take_append_cons_drop ▸ (by rw [if_pos hql])
    have e2 : l = l.take q ++ l[q] :: l.drop (q + 1) := by rw [← List.drop_eq_getElem_cons hql, List.take_append_drop]
    have f1 : c :: Cd.putT (l.set q x) = (c :: (Cd.putU l.length ++ l.take q)) ++ x :: l.drop (q + 1) := by unfold Cd.putT; rw [hlen, e1]; simp
    have f2 : c :: Cd.putT l = (c :: (Cd.putU l.length ++ l.take q)) ++ l[q] :: l.drop (q + 1) := by
      unfold Cd.putT
      conv => lhs; rw [e2]
      simp
    rw [f1, f2] at hs
    exact sum_turned hx hs

/-! frames one behind the other -/
theorem allGo_ge (l : List UInt8) (p : Nat) : p ≤ (allGo l p).2 := by
  by_cases h : p < l.length ∧ (take (l.drop p)).2.2 = 0 ∧ 0 < (take (l.drop p)).2.1
  · rw [allGo_more h]
    have := allGo_ge l (p + (take (l.drop p)).2.1)
    simp only; omega
  · rw [allGo_stop h]; exact Nat.le_refl _
termination_by l.length - p
theorem allGo_put {pre r : List UInt8} {c : UInt8} {l : List UInt8} (hc : ¬ c.toNat = 0) (hl : l.length ≤ 262144) :
    allGo (pre ++ ((put c l).1 ++ r)) pre.length = ((pre.length, (c, l)) :: (allGo (pre ++ ((put c l).1 ++ r)) (pre.length + (put c l).1.length)).1, (allGo (pre ++ ((put c l).1 ++ r)) (pre.length + (put c l).1.length)).2) := by
  have ht : take ((pre ++ ((put c l).1 ++ r)).drop pre.length) = ((c, l), (put c l).1.length, 0) := by rw [List.drop_left' rfl]; exact take_put hc hl
  have hp : 5 ≤ (put c l).1.length := by rw [put_ok hc hl]; simp only; rw [litlen]; omega
  have := allGo_more (l := pre ++ ((put c l).1 ++ r)) (p := pre.length) (by rw [ht]; exact ⟨by rw [List.length_append, List.length_append]; omega, rfl, by show 0 < (put c l).1.length; omega⟩)
  rw [ht] at this
  exact this
end Fr
end Go.Proofs.Ytgbfaabidplajaa
