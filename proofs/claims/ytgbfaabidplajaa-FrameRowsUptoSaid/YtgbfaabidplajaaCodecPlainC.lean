/-
  Plain mathematics of P1.8: what is written is read again; keys rise as what they are keys of.
-/
import Derived.Test.YtgbfaabidplajaaCodecPlainB
import Derived.Test.YtgbfaabidplajaaCodecOrder
namespace Go.Proofs.Ytgbfaabidplajaa
namespace Cd
open Go.RowKit
open Op (bytesLess)

theorem chain {a b c : World} (h : Below a.heap.size a b) (k : Below b.heap.size b c) : Below a.heap.size a c := h.trans (k.mono h.size)

theorem ofNat_low {m : Nat} (h : m < 256) : (UInt8.ofNat m).toNat = m := by rw [UInt8.toNat_ofNat']; omega

theorem takeGo_putU (r : List UInt8) (m : Nat) : ∀ (i acc : Nat), i ≤ 9 → m * 128 ^ i < 18446744073709551616 → (0 < i → 1 ≤ m) →
    takeGo (putU m ++ r) i acc = (acc + m * 128 ^ i, i + (putU m).length, 0) := by
  induction m using Nat.strongRecOn with
  | ind m ih =>
    intro i acc hi hm h1
    have h9 : (128 : Nat) ^ 9 = 9223372036854775808 := by decide
    by_cases h : m < 128
    · rw [putU_last h, List.cons_append, List.nil_append]
      have e := ofNat_low (m := m) (by omega)
      rw [go_last (by
        rw [e]
        rintro (⟨rfl, h2⟩ | ⟨h2, h3⟩)
        · have : 2 * 128 ^ 9 ≤ m * 128 ^ 9 := Nat.mul_le_mul_right _ h2
          omega
        · have := h1 h2; omega) (by rw [e]; exact h), e, Nat.mod_eq_of_lt h]
      simp
    · have e := ofNat_low (m := m % 128 + 128) (by omega)
      have hi8 : i ≠ 9 := by
        rintro rfl
        have : 128 * 128 ^ 9 ≤ m * 128 ^ 9 := Nat.mul_le_mul_right _ (by omega)
        omega
      rw [putU_more (by omega), List.cons_append, go_more (by rw [e]; omega) (by rw [e]; omega), e]
      have hs := put_step (m := m) (k := i) (Nat.le_refl _)
      rw [ih (m / 128) (by omega) (i + 1) _ (by omega) (by omega) (by omega)]
      have e2 : (m % 128 + 128) % 128 = m % 128 := by omega
      have e3 : m % 128 * 128 ^ i + m / 128 * 128 ^ (i + 1) = m * 128 ^ i := by
        rw [pow_s, ← Nat.mul_assoc, ← Nat.add_mul]
        congr 1; omega
      rw [e2, List.length_cons]
      simp only [Prod.mk.injEq, and_true]
      omega
theorem takeU_putU (m : Nat) (r : List UInt8) (h : m < 18446744073709551616) : takeU (putU m ++ r) = (m, (putU m).length, 0) := by
  unfold takeU
  rw [takeGo_putU r m 0 0 (by omega) (by simpa using h) (by omega)]
  simp
theorem takeT_putT (s r : List UInt8) (h : s.length < 18446744073709551616) : takeT (putT s ++ r) (s.length : Int) = (s, (putT s).length, 0) := by
  have hu := takeU_putU s.length (s ++ r) h
  have e : putT s ++ r = putU s.length ++ (s ++ r) := by rw [putT, List.append_assoc]
  rw [e, takeT_text hu (by simp) (by simp)]
  simp [putT]

theorem big_step (n k : Nat) : 256 * (n / 256 ^ (k + 1)) + n / 256 ^ k % 256 = n / 256 ^ k := by
  rw [Nat.pow_succ, ← Nat.div_div_eq_div_mul]; exact Nat.div_add_mod _ _
theorem wordGo_big (n : Nat) (h : n < 18446744073709551616) : wordGo (big n) = n := by
  have e : big n = [bigByte n 0, bigByte n 1, bigByte n 2, bigByte n 3, bigByte n 4, bigByte n 5, bigByte n 6, bigByte n 7] := by simp [big, List.range, List.range.loop]
  have hb : ∀ j, (bigByte n j).toNat = n / 256 ^ (7 - j) % 256 := fun j => ofNat_low (Nat.mod_lt _ (by omega))
  have h7 : 256 * 0 + n / 256 ^ 7 % 256 = n / 256 ^ 7 := by
    have : n / 256 ^ 7 < 256 := Nat.div_lt_of_lt_mul (by have : (256 : Nat) ^ 7 * 256 = 18446744073709551616 := by decide
                                                         omega)
    rw [Nat.mod_eq_of_lt this]; simp
  rw [e]
  unfold wordGo
  simp only [List.foldl_cons, List.foldl_nil, hb]
  rw [show 7 - 0 = 7 from rfl, show 7 - 1 = 6 from rfl, show 7 - 2 = 5 from rfl, show 7 - 3 = 4 from rfl, show 7 - 4 = 3 from rfl, show 7 - 5 = 2 from rfl, show 7 - 6 = 1 from rfl, show 7 - 7 = 0 from rfl]
  rw [h7, big_step n 6, big_step n 5, big_step n 4, big_step n 3, big_step n 2, big_step n 1, big_step n 0]
  simp
theorem big_len (n : Nat) : (big n).length = 8 := by simp [big]
theorem keyOf_turn (m : Int) (h1 : -9223372036854775808 ≤ m) (h2 : m ≤ 9223372036854775807) : keyOf (turn m) = m := by
  have ht := turn_lt m h2
  have h := u64_xor_nat (turn m) 9223372036854775808 ht (by omega)
  unfold keyOf
  rw [show (9223372036854775808 : Int) = ((9223372036854775808 : Nat) : Int) from rfl, h, xor_top _ ht]
  unfold turn at *
  by_cases hm : 0 ≤ m
  · rw [if_neg (by omega), IntWalk.wrap64_in _ ⟨by omega, by omega⟩]; omega
  · rw [if_pos (by omega)]
    have : (((m + 9223372036854775808).toNat + 9223372036854775808 : Nat) : Int) = m + 18446744073709551616 := by omega
    rw [this]
    unfold wrap64
    omega
theorem takeKI_big (m : Int) (r : List UInt8) (h1 : -9223372036854775808 ≤ m) (h2 : m ≤ 9223372036854775807) : takeKI (big (turn m) ++ r) = (m, 8, 0) := by
  rw [takeKI_eight (by rw [List.length_append, big_len]; omega), List.take_left' (big_len _), wordGo_big _ (turn_lt m h2), keyOf_turn m h1 h2]

theorem takeKGo_key (r : List UInt8) : ∀ (s acc : List UInt8) (k : Nat), takeKGo (keyGo s ++ [0, 1] ++ r) acc k = (acc ++ s, k + (keyGo s).length + 2, 0)
  | [], acc, k => by
    show takeKGo (0 :: 1 :: r) acc k = _
    rw [tk_end rfl rfl]; simp [keyGo]
  | c :: s, acc, k => by
    by_cases h : c.toNat = 0
    · have hc : c = 0 := UInt8.toNat_inj.1 (by simpa using h)
      rw [key_zero h]
      show takeKGo (c :: 255 :: (keyGo s ++ [0, 1] ++ r)) acc k = _
      rw [tk_zero h rfl, takeKGo_key r s]
      subst hc
      simp; omega
    · rw [key_plain h]
      show takeKGo (c :: (keyGo s ++ [0, 1] ++ r)) acc k = _
      rw [tk_plain h, takeKGo_key r s]
      simp; omega
theorem takeK_keyT (s r : List UInt8) : takeK (keyT s ++ r) = (s, (keyT s).length, 0) := by
  unfold takeK keyT
  rw [takeKGo_key]
  simp

/-! order -/
theorem foldl_ge (l : List UInt8) : ∀ a : Nat, a * 256 ^ l.length ≤ l.foldl (fun n c => 256 * n + c.toNat) a := by
  induction l with
  | nil => intro a; simp
  | cons c l ih =>
    intro a
    have h := ih (256 * a + c.toNat)
    have h2 : (256 * a) * 256 ^ l.length ≤ (256 * a + c.toNat) * 256 ^ l.length := Nat.mul_le_mul_right _ (by omega)
    rw [List.foldl_cons, List.length_cons, Nat.pow_succ]
    have h3 : a * (256 ^ l.length * 256) = (256 * a) * 256 ^ l.length := by rw [Nat.mul_comm 256 a, Nat.mul_assoc, Nat.mul_comm 256]
    omega
theorem bl_word : ∀ (p q : List UInt8) (a : Nat), p.length = q.length → bytesLess p q = decide (p.foldl (fun n c => 256 * n + c.toNat) a < q.foldl (fun n c => 256 * n + c.toNat) a)
  | [], [], a, _ => by simp [bl_nil_r]
  | c :: p, d :: q, a, h => by
    have hl : p.length = q.length := by simpa using h
    rw [bl_cons, List.foldl_cons, List.foldl_cons]
    rcases Nat.lt_trichotomy c.toNat d.toNat with h1 | h1 | h1
    · have e1 : decide (c.toNat < d.toNat) = true := by simpa using h1
      have hlt := foldl_lt p (256 * a + c.toNat)
      have hge := foldl_ge q (256 * a + d.toNat)
      rw [← hl] at hge
      have hm : (256 * a + c.toNat + 1) * 256 ^ p.length ≤ (256 * a + d.toNat) * 256 ^ p.length := Nat.mul_le_mul_right _ (by omega)
      rw [e1, Bool.true_or]
      exact (decide_eq_true (by omega)).symm
    · have e1 : decide (c.toNat < d.toNat) = false := by simp; omega
      have e2 : decide (c.toNat = d.toNat) = true := by simpa using h1
      rw [e1, e2, h1, bl_word p q (256 * a + d.toNat) hl]; simp
    · have e1 : decide (c.toNat < d.toNat) = false := by simp; omega
      have e2 : decide (c.toNat = d.toNat) = false := by simp; omega
      have hlt := foldl_lt q (256 * a + d.toNat)
      have hge := foldl_ge p (256 * a + c.toNat)
      rw [hl] at hge
      have hm : (256 * a + d.toNat + 1) * 256 ^ q.length ≤ (256 * a + c.toNat) * 256 ^ q.length := Nat.mul_le_mul_right _ (by omega)
      rw [e1, e2, Bool.false_or, Bool.false_and]
      exact (decide_eq_false (by omega)).symm
theorem bl_append : ∀ (p q x y : List UInt8), p.length = q.length → p ≠ q → bytesLess (p ++ x) (q ++ y) = bytesLess p q
  | [], [], _, _, _, h => absurd rfl h
  | c :: p, d :: q, x, y, h, hne => by
    rw [List.cons_append, List.cons_append, bl_cons, bl_cons]
    by_cases e : c.toNat = d.toNat
    · have hc : c = d := UInt8.toNat_inj.1 e
      rw [bl_append p q x y (by simpa using h) (by rintro rfl; exact hne (by rw [hc]))]
    · have e2 : decide (c.toNat = d.toNat) = false := by simpa using e
      rw [e2]; simp
theorem big_rises (m m' : Int) (x y : List UInt8) (h1 : -9223372036854775808 ≤ m) (h2 : m ≤ 9223372036854775807) (h1' : -9223372036854775808 ≤ m') (h2' : m' ≤ 9223372036854775807) (hne : m ≠ m') :
    bytesLess (big (turn m) ++ x) (big (turn m') ++ y) = decide (m < m') := by
  have t1 := turn_lt m h2
  have t2 := turn_lt m' h2'
  have w1 := wordGo_big _ t1
  have w2 := wordGo_big _ t2
  have hb : big (turn m) ≠ big (turn m') := by
    intro e
    rw [e, w2] at w1
    unfold turn at w1; omega
  rw [bl_append _ _ x y (by rw [big_len, big_len]) hb, bl_word _ _ 0 (by rw [big_len, big_len])]
  have e1 : (big (turn m)).foldl (fun n c => 256 * n + c.toNat) 0 = turn m := w1
  have e2 : (big (turn m')).foldl (fun n c => 256 * n + c.toNat) 0 = turn m' := w2
  rw [e1, e2, decide_eq_decide]
  unfold turn; omega

/-- two keys part before either ends, and as their texts do -/
theorem key_rises (x y : List UInt8) : ∀ (s t : List UInt8), s ≠ t → bytesLess (keyT s ++ x) (keyT t ++ y) = bytesLess s t ∧ common (keyT s) (keyT t) < (keyT s).length ∧ common (keyT s) (keyT t) < (keyT t).length
  | [], [], h => absurd rfl h
  | [], d :: t, _ => by
    unfold keyT
    by_cases h : d.toNat = 0
    · have hd : d = 0 := UInt8.toNat_inj.1 (by simpa using h)
      subst hd
      rw [key_zero rfl]
      refine ⟨rfl, ?_, ?_⟩
      · simp [keyGo, common]
      · simp [keyGo, common]
    · rw [key_plain h]
      have e1 : ¬ (0 : UInt8).toNat = d.toNat := by simp; omega
      refine ⟨?_, ?_, ?_⟩
      · show bytesLess (0 :: ([1] ++ x)) (d :: (keyGo t ++ [0, 1] ++ y)) = true
        rw [bl_cons]
        have : decide ((0 : UInt8).toNat < d.toNat) = true := by simp; omega
        rw [this]; rfl
      · show common (0 :: [1]) (d :: (keyGo t ++ [0, 1])) < _
        rw [common_ne e1]; simp [keyGo]
      · show common (0 :: [1]) (d :: (keyGo t ++ [0, 1])) < _
        rw [common_ne e1]; simp
  | c :: s, [], _ => by
    unfold keyT
    by_cases h : c.toNat = 0
    · have hd : c = 0 := UInt8.toNat_inj.1 (by simpa using h)
      subst hd
      rw [key_zero rfl]
      refine ⟨rfl, ?_, ?_⟩
      · simp [keyGo, common]
      · simp [keyGo, common]
    · rw [key_plain h]
      have e1 : ¬ c.toNat = (0 : UInt8).toNat := by simp; omega
      refine ⟨?_, ?_, ?_⟩
      · show bytesLess (c :: (keyGo s ++ [0, 1] ++ x)) (0 :: ([1] ++ y)) = false
        rw [bl_cons]
        have e2 : decide (c.toNat < (0 : UInt8).toNat) = false := by simp
        have e3 : decide (c.toNat = (0 : UInt8).toNat) = false := by simpa using e1
        rw [e2, e3]; rfl
      · show common (c :: (keyGo s ++ [0, 1])) (0 :: [1]) < _
        rw [common_ne e1]; simp
      · show common (c :: (keyGo s ++ [0, 1])) (0 :: [1]) < _
        rw [common_ne e1]; simp [keyGo]
  | c :: s, d :: t, hne => by
    unfold keyT
    by_cases e : c.toNat = d.toNat
    · have hcd : c = d := UInt8.toNat_inj.1 e
      subst hcd
      have ih := key_rises x y s t (by rintro rfl; exact hne rfl)
      unfold keyT at ih
      have hb : bytesLess (c :: s) (c :: t) = bytesLess s t := by rw [bl_cons]; simp
      rw [hb]
      by_cases h : c.toNat = 0
      · rw [key_zero h, key_zero h]
        refine ⟨?_, ?_, ?_⟩
        · show bytesLess (c :: 255 :: (keyGo s ++ [0, 1] ++ x)) (c :: 255 :: (keyGo t ++ [0, 1] ++ y)) = _
          rw [bl_cons, bl_cons, ih.1]; simp
        · show common (c :: 255 :: (keyGo s ++ [0, 1])) (c :: 255 :: (keyGo t ++ [0, 1])) < (c :: 255 :: (keyGo s ++ [0, 1])).length
          rw [common_eq rfl, common_eq rfl]; simp only [List.length_cons]; have := ih.2.1; omega
        · show common (c :: 255 :: (keyGo s ++ [0, 1])) (c :: 255 :: (keyGo t ++ [0, 1])) < (c :: 255 :: (keyGo t ++ [0, 1])).length
          rw [common_eq rfl, common_eq rfl]; simp only [List.length_cons]; have := ih.2.2; omega
      · rw [key_plain h, key_plain h]
        refine ⟨?_, ?_, ?_⟩
        · show bytesLess (c :: (keyGo s ++ [0, 1] ++ x)) (c :: (keyGo t ++ [0, 1] ++ y)) = _
          rw [bl_cons, ih.1]; simp
        · show common (c :: (keyGo s ++ [0, 1])) (c :: (keyGo t ++ [0, 1])) < (c :: (keyGo s ++ [0, 1])).length
          rw [common_eq rfl]; simp only [List.length_cons]; have := ih.2.1; omega
        · show common (c :: (keyGo s ++ [0, 1])) (c :: (keyGo t ++ [0, 1])) < (c :: (keyGo t ++ [0, 1])).length
          rw [common_eq rfl]; simp only [List.length_cons]; have := ih.2.2; omega
    · have e2 : decide (c.toNat = d.toNat) = false := by simpa using e
      have key_head : ∀ (a : UInt8) (l : List UInt8), ∃ r, keyGo (a :: l) = a :: r := by
        intro a l
        by_cases h : a.toNat = 0
        · exact ⟨_, key_zero h⟩
        · exact ⟨_, key_plain h⟩
      obtain ⟨r1, h1⟩ := key_head c s
      obtain ⟨r2, h2⟩ := key_head d t
      rw [h1, h2]
      refine ⟨?_, ?_, ?_⟩
      · show bytesLess (c :: (r1 ++ [0, 1] ++ x)) (d :: (r2 ++ [0, 1] ++ y)) = _
        rw [bl_cons, bl_cons, e2]; simp
      · show common (c :: (r1 ++ [0, 1])) (d :: (r2 ++ [0, 1])) < _
        rw [common_ne e]; simp
      · show common (c :: (r1 ++ [0, 1])) (d :: (r2 ++ [0, 1])) < _
        rw [common_ne e]; simp
end Cd
end Go.Proofs.Ytgbfaabidplajaa
