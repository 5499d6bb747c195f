import Derived.Deep.RegionWith
import Derived.Deep.RegionHeld3
import Derived.Test.YteckjhhbljoklaaPart3
/-
  Plain mathematics of P1.8: what is written is read again; keys rise as what they are keys of.
-/
namespace Go.Proofs.Yteckjhhbljoklaa
namespace Cd
open Go.RowKit
open Op (bytesLess)

theorem chain {a b c : World} (h : Below a.heap.size a b) (k : Below b.heap.size b c) : Below a.heap.size a c := h.trans (k.mono h.size)

theorem ofNat_low {m : Nat} (h : m < 256) : (UInt8.ofNat m).toNat = m := by rw [UInt8.toNat_ofNat']; omega

theorem takeGo_putU (r : List UInt8) (m : Nat) : ∀ (i acc : Nat), i ≤ 9 → m * 128 ^ i < 18446744073709551616 → (0 < i → 1 ≤ m) →
    takeGo (putU m ++ r) i acc = (acc + m * 128 ^ i, i + (putU m).length, 0) := by
  induction m using Nat.strongRecOn with
  | ind m ih =>
    intro i acc hi hm h1
    have h9 : (128 : Nat) ^ 9 = 9223372036854775808 := by decide
    by_cases h : m < 128
    · rw [putU_last h, List.cons_append, List.nil_append]
      have e := ofNat_low (m := m) (by omega)
      rw [go_last (by
        rw [e]
        rintro (⟨rfl, h2⟩ | ⟨h2, h3⟩)
        · have : 2 * 128 ^ 9 ≤ m * 128 ^ 9 := Nat.mul_le_mul_right _ h2
          omega
        · have := h1 h2; omega) (by rw [e]; exact h), e, Nat.mod_eq_of_lt h]
      simp
    · have e := ofNat_low (m := m % 128 + 128) (by omega)
      have hi8 : i ≠ 9 := by
        rintro rfl
        have : 128 * 128 ^ 9 ≤ m * 128 ^ 9 := Nat.mul_le_mul_right _ (by omega)
        omega
      rw [putU_more (by omega), List.cons_append, go_more (by rw [e]; omega) (by rw [e]; omega), e]
      have hs := put_step (m := m) (k := i) (Nat.le_refl _)
      rw [ih (m / 128) (by omega) (i + 1) _ (by omega) (by omega) (by omega)]
      have e2 : (m % 128 + 128) % 128 = m % 128 := by omega
      have e3 : m % 128 * 128 ^ i + m / 128 * 128 ^ (i + 1) = m * 128 ^ i := by
        rw [pow_s, ← Nat.mul_assoc, ← Nat.add_mul]
        congr 1; omega
      rw [e2, List.length_cons]
      simp only [Prod.mk.injEq, and_true]
      omega
theorem takeU_putU (m : Nat) (r : List UInt8) (h : m < 18446744073709551616) : takeU (putU m ++ r) = (m, (putU m).length, 0) := by
  unfold takeU
  rw [takeGo_putU r m 0 0 (by omega) (by simpa using h) (by omega)]
  simp
theorem takeT_putT (s r : List UInt8) (h : s.length < 18446744073709551616) : takeT (putT s ++ r) (s.length : Int) = (s, (putT s).length, 0) := by
  have hu := takeU_putU s.length (s ++ r) h
  have e : putT s ++ r = putU s.length ++ (s ++ r) := by rw [putT, List.append_assoc]
  rw [e, takeT_text hu (by simp) (by simp)]
  simp [putT]

theorem big_step (n k : Nat) : 256 * (n / 256 ^ (k + 1)) + n / 256 ^ k % 256 = n / 256 ^ k := by
  rw [Nat.pow_succ, ← Nat.div_div_eq_div_mul]; exact Nat.div_add_mod _ _
theorem wordGo_big (n : Nat) (h : n < 18446744073709551616) : wordGo (big n) = n := by
  have e : big n = [bigByte n 0, bigByte n 1, bigByte n 2, bigByte n 3, bigByte n 4, bigByte n 5, bigByte n 6, bigByte n 7] := by simp [big, List.range, List.range.loop]
  have hb : ∀ j, (bigByte n j).toNat = n / 256 ^ (7 - j) % 256 := fun j => ofNat_low (Nat.mod_lt _ (by omega))
  have h7 : 256 * 0 + n / 256 ^ 7 % 256 = n / 256 ^ 7 := by
    have : n / 256 ^ 7 < 256 := Nat.div_lt_of_lt_mul (by have : (256 : Nat) ^ 7 * 256 = 18446744073709551616 := by decide
                                                         omega)
    rw [Nat.mod_eq_of_lt this]; simp
  rw [e]
  unfold wordGo
  simp only [List.foldl_cons, List.foldl_nil, hb]
  rw [show 7 - 0 = 7 from rfl, show 7 - 1 = 6 from rfl, show 7 - 2 = 5 from rfl, show 7 - 3 = 4 from rfl, show 7 - 4 = 3 from rfl, show 7 - 5 = 2 from rfl, show 7 - 6 = 1 from rfl, show 7 - 7 = 0 from rfl]
  rw [h7, big_step n 6, big_step n 5, big_step n 4, big_step n 3, big_step n 2, big_step n 1, big_step n 0]
  simp
theorem big_len (n : Nat) : (big n).length = 8 := by simp [big]
theorem keyOf_turn (m : Int) (h1 : -9223372036854775808 ≤ m) (h2 : m ≤ 9223372036854775807) : keyOf (turn m) = m := by
  have ht := turn_lt m h2
  have h := u64_xor_nat (turn m) 9223372036854775808 ht (by omega)
  unfold keyOf
  rw [show (9223372036854775808 : Int) = ((9223372036854775808 : Nat) : Int) from rfl, h, xor_top _ ht]
  unfold turn at *
  by_cases hm : 0 ≤ m
  · rw [if_neg (by omega), IntWalk.wrap64_in _ ⟨by omega, by omega⟩]; omega
  · rw [if_pos (by omega)]
    have : (((m + 9223372036854775808).toNat + 9223372036854775808 : Nat) : Int) = m + 18446744073709551616 := by omega
    rw [this]
    unfold wrap64
    omega
theorem takeKI_big (m : Int) (r : List UInt8) (h1 : -9223372036854775808 ≤ m) (h2 : m ≤ 9223372036854775807) : takeKI (big (turn m) ++ r) = (m, 8, 0) := by
  rw [takeKI_eight (by rw [List.length_append, big_len]; omega), List.take_left' (big_len _), wordGo_big _ (turn_lt m h2), keyOf_turn m h1 h2]

theorem takeKGo_key (r : List UInt8) : ∀ (s acc : List UInt8) (k : Nat), takeKGo (keyGo s ++ [0, 1] ++ r) acc k = (acc ++ s, k + (keyGo s).length + 2, 0)
  | [], acc, k => by
    show takeKGo (0 :: 1 :: r) acc k = _
    rw [tk_end rfl rfl]; simp [keyGo]
  | c :: s, acc, k => by
    by_cases h : c.toNat = 0
    · have hc : c = 0 := UInt8.toNat_inj.1 (by simpa using h)
      rw [key_zero h]
      show takeKGo (c :: 255 :: (keyGo s ++ [0, 1] ++ r)) acc k = _
      rw [tk_zero h rfl, takeKGo_key r s]
      subst hc
      simp; omega
    · rw [key_plain h]
      show takeKGo (c :: (keyGo s ++ [0, 1] ++ r)) acc k = _
      rw [tk_plain h, takeKGo_key r s]
      simp; omega
theorem takeK_keyT (s r : List UInt8) : takeK (keyT s ++ r) = (s, (keyT s).length, 0) := by
  unfold takeK keyT
  rw [takeKGo_key]
  simp

/-! order -/
theorem foldl_ge (l : List UInt8) : ∀ a : Nat, a * 256 ^ l.length ≤ l.foldl (fun n c => 256 * n + c.toNat) a := by
  induction l with
  | nil => intro a; simp
  | cons c l ih =>
    intro a
    have h := ih (256 * a + c.toNat)
    have h2 : (256 * a) * 256 ^ l.length ≤ (256 * a + c.toNat) * 256 ^ l.length := Nat.mul_le_mul_right _ (by omega)
    rw [List.foldl_cons, List.length_cons, Nat.pow_succ]
    have h3 : a * (256 ^ l.length * 256) = (256 * a) * 256 ^ l.length := by rw [Nat.mul_comm 256 a, Nat.mul_assoc, Nat.mul_comm 256]
    omega
theorem bl_word : ∀ (p q : List UInt8) (a : Nat), p.length = q.length → bytesLess p q = decide (p.foldl (fun n c => 256 * n + c.toNat) a < q.foldl (fun n c => 256 * n + c.toNat) a)
  | [], [], a, _ => by simp [bl_nil_r]
  | c :: p, d :: q, a, h => by
    have hl : p.length = q.length := by simpa using h
    rw [bl_cons, List.foldl_cons, List.foldl_cons]
    rcases Nat.lt_trichotomy c.toNat d.toNat with h1 | h1 | h1
    · have e1 : decide (c.toNat < d.toNat) = true := by simpa using h1
      have hlt := foldl_lt p (256 * a + c.toNat)
      have hge := foldl_ge q (256 * a + d.toNat)
      rw [← hl] at hge
      have hm : (256 * a + c.toNat + 1) * 256 ^ p.length ≤ (256 * a + d.toNat) * 256 ^ p.length := Nat.mul_le_mul_right _ (by omega)
      rw [e1, Bool.true_or]
      exact (decide_eq_true (by omega)).symm
    · have e1 : decide (c.toNat < d.toNat) = false := by simp; omega
      have e2 : decide (c.toNat = d.toNat) = true := by simpa using h1
      rw [e1, e2, h1, bl_word p q (256 * a + d.toNat) hl]; simp
    · have e1 : decide (c.toNat < d.toNat) = false := by simp; omega
      have e2 : decide (c.toNat = d.toNat) = false := by simp; omega
      have hlt := foldl_lt q (256 * a + d.toNat)
      have hge := foldl_ge p (256 * a + c.toNat)
      rw [hl] at hge
      have hm : (256 * a + d.toNat + 1) * 256 ^ q.length ≤ (256 * a + c.toNat) * 256 ^ q.length := Nat.mul_le_mul_right _ (by omega)
      rw [e1, e2, Bool.false_or, Bool.false_and]
      exact (decide_eq_false (by omega)).symm
theorem bl_append : ∀ (p q x y : List UInt8), p.length = q.length → p ≠ q → bytesLess (p ++ x) (q ++ y) = bytesLess p q
  | [], [], _, _, _, h => absurd rfl h
  | c :: p, d :: q, x, y, h, hne => by
    rw [List.cons_append, List.cons_append, bl_cons, bl_cons]
    by_cases e : c.toNat = d.toNat
    · have hc : c = d := UInt8.toNat_inj.1 e
      rw [bl_append p q x y (by simpa using h) (by rintro rfl; exact hne (by rw [hc]))]
    · have e2 : decide (c.toNat = d.toNat) = false := by simpa using e
      rw [e2]; simp
theorem big_rises (m m' : Int) (x y : List UInt8) (h1 : -9223372036854775808 ≤ m) (h2 : m ≤ 9223372036854775807) (h1' : -9223372036854775808 ≤ m') (h2' : m' ≤ 9223372036854775807) (hne : m ≠ m') :
    bytesLess (big (turn m) ++ x) (big (turn m') ++ y) = decide (m < m') := by
  have t1 := turn_lt m h2
  have t2 := turn_lt m' h2'
  have w1 := wordGo_big _ t1
  have w2 := wordGo_big _ t2
  have hb : big (turn m) ≠ big (turn m') := by
    intro e
    rw [e, w2] at w1
    unfold turn at w1; omega
  rw [bl_append _ _ x y (by rw [big_len, big_len]) hb, bl_word _ _ 0 (by rw [big_len, big_len])]
  have e1 : (big (turn m)).foldl (fun n c => 256 * n + c.toNat) 0 = turn m := w1
  have e2 : (big (turn m')).foldl (fun n c => 256 * n + c.toNat) 0 = turn m' := w2
  rw [e1, e2, decide_eq_decide]
  unfold turn; omega

/-- two keys part before either ends, and as their texts do -/
theorem key_rises (x y : List UInt8) : ∀ (s t : List UInt8), s ≠ t → bytesLess (keyT s ++ x) (keyT t ++ y) = bytesLess s t ∧ common (keyT s) (keyT t) < (keyT s).length ∧ common (keyT s) (keyT t) < (keyT t).length
  | [], [], h => absurd rfl h
  | [], d :: t, _ => by
    unfold keyT
    by_cases h : d.toNat = 0
    · have hd : d = 0 := UInt8.toNat_inj.1 (by simpa using h)
      subst hd
      rw [key_zero rfl]
      refine ⟨rfl, ?_, ?_⟩
      · simp [keyGo, common]
      · simp [keyGo, common]
    · rw [key_plain h]
      have e1 : ¬ (0 : UInt8).toNat = d.toNat := by simp; omega
      refine ⟨?_, ?_, ?_⟩
      · show bytesLess (0 :: ([1] ++ x)) (d :: (keyGo t ++ [0, 1] ++ y)) = true
        rw [bl_cons]
        have : decide ((0 : UInt8).toNat < d.toNat) = true := by simp; omega
        rw [this]; rfl
      · show common (0 :: [1]) (d :: (keyGo t ++ [0, 1])) < _
        rw [common_ne e1]; simp [keyGo]
      · show common (0 :: [1]) (d :: (keyGo t ++ [0, 1])) < _
        rw [common_ne e1]; simp
  | c :: s, [], _ => by
    unfold keyT
    by_cases h : c.toNat = 0
    · have hd : c = 0 := UInt8.toNat_inj.1 (by simpa using h)
      subst hd
      rw [key_zero rfl]
      refine ⟨rfl, ?_, ?_⟩
      · simp [keyGo, common]
      · simp [keyGo, common]
    · rw [key_plain h]
      have e1 : ¬ c.toNat = (0 : UInt8).toNat := by simp; omega
      refine ⟨?_, ?_, ?_⟩
      · show bytesLess (c :: (keyGo s ++ [0, 1] ++ x)) (0 :: ([1] ++ y)) = false
        rw [bl_cons]
        have e2 : decide (c.toNat < (0 : UInt8).toNat) = false := by simp
        have e3 : decide (c.toNat = (0 : UInt8).toNat) = false := by simpa using e1
        rw [e2, e3]; rfl
      · show common (c :: (keyGo s ++ [0, 1])) (0 :: [1]) < _
        rw [common_ne e1]; simp
      · show common (c :: (keyGo s ++ [0, 1])) (0 :: [1]) < _
        rw [common_ne e1]; simp [keyGo]
  | c :: s, d :: t, hne => by
    unfold keyT
    by_cases e : c.toNat = d.toNat
    · have hcd : c = d := UInt8.toNat_inj.1 e
      subst hcd
      have ih := key_rises x y s t (by rintro rfl; exact hne rfl)
      unfold keyT at ih
      have hb : bytesLess (c :: s) (c :: t) = bytesLess s t := by rw [bl_cons]; simp
      rw [hb]
      by_cases h : c.toNat = 0
      · rw [key_zero h, key_zero h]
        refine ⟨?_, ?_, ?_⟩
        · show bytesLess (c :: 255 :: (keyGo s ++ [0, 1] ++ x)) (c :: 255 :: (keyGo t ++ [0, 1] ++ y)) = _
          rw [bl_cons, bl_cons, ih.1]; simp
        · show common (c :: 255 :: (keyGo s ++ [0, 1])) (c :: 255 :: (keyGo t ++ [0, 1])) < (c :: 255 :: (keyGo s ++ [0, 1])).length
          rw [common_eq rfl, common_eq rfl]; simp only [List.length_cons]; have := ih.2.1; omega
        · show common (c :: 255 :: (keyGo s ++ [0, 1])) (c :: 255 :: (keyGo t ++ [0, 1])) < (c :: 255 :: (keyGo t ++ [0, 1])).length
          rw [common_eq rfl, common_eq rfl]; simp only [List.length_cons]; have := ih.2.2; omega
      · rw [key_plain h, key_plain h]
        refine ⟨?_, ?_, ?_⟩
        · show bytesLess (c :: (keyGo s ++ [0, 1] ++ x)) (c :: (keyGo t ++ [0, 1] ++ y)) = _
          rw [bl_cons, ih.1]; simp
        · show common (c :: (keyGo s ++ [0, 1])) (c :: (keyGo t ++ [0, 1])) < (c :: (keyGo s ++ [0, 1])).length
          rw [common_eq rfl]; simp only [List.length_cons]; have := ih.2.1; omega
        · show common (c :: (keyGo s ++ [0, 1])) (c :: (keyGo t ++ [0, 1])) < (c :: (keyGo t ++ [0, 1])).length
          rw [common_eq rfl]; simp only [List.length_cons]; have := ih.2.2; omega
    · have e2 : decide (c.toNat = d.toNat) = false := by simpa using e
      have key_head : ∀ (a : UInt8) (l : List UInt8), ∃ r, keyGo (a :: l) = a :: r := by
        intro a l
        by_cases h : a.toNat = 0
        · exact ⟨_, key_zero h⟩
        · exact ⟨_, key_plain h⟩
      obtain ⟨r1, h1⟩ := key_head c s
      obtain ⟨r2, h2⟩ := key_head d t
      rw [h1, h2]
      refine ⟨?_, ?_, ?_⟩
      · show bytesLess (c :: (r1 ++ [0, 1] ++ x)) (d :: (r2 ++ [0, 1] ++ y)) = _
        rw [bl_cons, bl_cons, e2]; simp
      · show common (c :: (r1 ++ [0, 1])) (d :: (r2 ++ [0, 1])) < _
        rw [common_ne e]; simp
      · show common (c :: (r1 ++ [0, 1])) (d :: (r2 ++ [0, 1])) < _
        rw [common_ne e]; simp
end Cd
end Go.Proofs.Yteckjhhbljoklaa

/-
  Plain mathematics of P2.5: what was put is taken; no beginning of it is a frame; one byte turned is seen; frames one behind the other.
-/
namespace Go.Proofs.Yteckjhhbljoklaa
namespace Fr
open Go.RowKit

/-! what was put is taken -/
theorem takeT_putT' (s r : List UInt8) (m : Int) (h : s.length < 18446744073709551616) (hm : s.length ≤ m.toNat) : Cd.takeT (Cd.putT s ++ r) m = (s, (Cd.putT s).length, 0) := by
  have hu := Cd.takeU_putU s.length (s ++ r) h
  have e : Cd.putT s ++ r = Cd.putU s.length ++ (s ++ r) := by rw [Cd.putT, List.append_assoc]
  rw [e, Cd.takeT_text hu hm (by simp)]
  simp [Cd.putT]
theorem lit4 (n : Nat) (x : List UInt8) : (lit n ++ x).take 4 = lit n := by rw [List.take_left' (lit_len n)]
theorem lit4d (n : Nat) (x : List UInt8) : (lit n ++ x).drop 4 = x := by rw [List.drop_left' (lit_len n)]
theorem lit5d (n : Nat) (c : UInt8) (x : List UInt8) : (lit n ++ c :: x).drop 5 = x := by
  have : (lit n ++ c :: x).drop 5 = ((lit n ++ c :: x).drop 4).drop 1 := by rw [List.drop_drop]
  rw [this, lit4d]; rfl
theorem lit4g (n : Nat) (c : UInt8) (x : List UInt8) : (lit n ++ c :: x).getD 4 0 = c := by
  rw [List.getD_eq_getElem?_getD, List.getElem?_append_right (by rw [lit_len]; omega), lit_len]; rfl
theorem litlen (n : Nat) (c : UInt8) (x : List UInt8) : (lit n ++ c :: x).length = 5 + x.length := by rw [List.length_append, lit_len, List.length_cons]; omega
/-- whatever stands in the sum's place: the frame is there just where the sum is the right one -/
theorem take_form {n : Nat} {c : UInt8} {l r : List UInt8} (hc : ¬ c.toNat = 0) (hl : l.length ≤ 262144) :
    take (lit n ++ c :: (Cd.putT l ++ r)) = if lit (sum (c :: Cd.putT l)) = lit n then ((c, l), 5 + (Cd.putT l).length, 0) else ((0, []), 0, 3) := by
  have ht := takeT_putT' l r 262144 (by omega) (by simpa using hl)
  have h5 : 5 ≤ (lit n ++ c :: (Cd.putT l ++ r)).length := by rw [litlen]; omega
  have h0 : ¬ ((lit n ++ c :: (Cd.putT l ++ r)).getD 4 0).toNat = 0 := by rw [lit4g]; exact hc
  have hr : ((lit n ++ c :: (Cd.putT l ++ r)).drop 4).take ((Cd.putT l).length + 1) = c :: Cd.putT l := by rw [lit4d, List.take_succ_cons, List.take_left' rfl]
  by_cases hs : lit (sum (c :: Cd.putT l)) = lit n
  · rw [take_ok (t := l) (n := (Cd.putT l).length) h5 h0 (by rw [lit5d]; exact ht) (by rw [hr, lit4]; exact hs), if_pos hs, lit4g]
  · rw [take_bad (t := l) (n := (Cd.putT l).length) h5 h0 (by rw [lit5d]; exact ht) (by rw [hr, lit4]; exact hs), if_neg hs]
theorem take_put {c : UInt8} {l r : List UInt8} (hc : ¬ c.toNat = 0) (hl : l.length ≤ 262144) :
    take ((put c l).1 ++ r) = ((c, l), (put c l).1.length, 0) := by
  have e : (lit (sum (c :: Cd.putT l)) ++ c :: Cd.putT l) ++ r = lit (sum (c :: Cd.putT l)) ++ c :: (Cd.putT l ++ r) := by simp
  rw [put_ok hc hl]
  show take ((lit (sum (c :: Cd.putT l)) ++ c :: Cd.putT l) ++ r) = _
  rw [e, take_form hc hl, if_pos rfl]
  show _ = ((c, l), (lit (sum (c :: Cd.putT l)) ++ c :: Cd.putT l).length, 0)
  rw [litlen]

/-! no beginning is a frame -/
theorem takeGo_cut (m : Nat) : ∀ (i acc k : Nat), i ≤ 9 → m * 128 ^ i < 18446744073709551616 → (0 < i → 1 ≤ m) → k < (Cd.putU m).length → Cd.takeGo ((Cd.putU m).take k) i acc = (0, 0, 2) := by
  induction m using Nat.strongRecOn with
  | ind m ih =>
    intro i acc k hi hm h1 hk
    cases k with
    | zero => simp [Cd.takeGo]
    | succ k =>
      have h9 : (128 : Nat) ^ 9 = 9223372036854775808 := by decide
      by_cases h : m < 128
      · rw [Cd.putU_last h] at hk; simp at hk
      · have e := Cd.ofNat_low (m := m % 128 + 128) (by omega)
        have hi8 : i ≠ 9 := by
          rintro rfl
          have : 128 * 128 ^ 9 ≤ m * 128 ^ 9 := Nat.mul_le_mul_right _ (by omega)
          omega
        rw [Cd.putU_more (by omega), List.length_cons] at hk
        rw [Cd.putU_more (by omega), List.take_succ_cons, Cd.go_more (by rw [e]; omega) (by rw [e]; omega)]
        have hs := Cd.put_step (m := m) (k := i) (Nat.le_refl _)
        exact ih (m / 128) (by omega) (i + 1) _ k (by omega) (by omega) (by omega) (by omega)
theorem takeU_cut (m k : Nat) (h : m < 18446744073709551616) (hk : k < (Cd.putU m).length) : Cd.takeU ((Cd.putU m).take k) = (0, 0, 2) :=
  takeGo_cut m 0 0 k (by omega) (by simpa using h) (by omega) hk
theorem takeT_cut (l : List UInt8) (k : Nat) (hl : l.length ≤ 262144) (hk : k < (Cd.putT l).length) : Cd.takeT ((Cd.putT l).take k) 262144 = ([], 0, 2) := by
  unfold Cd.putT at hk ⊢
  rw [List.length_append] at hk
  by_cases h : k < (Cd.putU l.length).length
  · rw [List.take_append_of_le_length (by omega)]
    exact Cd.takeT_err (takeU_cut _ _ (by omega) h) (by omega)
  · rw [List.take_append, List.take_of_length_le (by omega)]
    have hu := Cd.takeU_putU l.length (l.take (k - (Cd.putU l.length).length)) (by omega)
    exact Cd.takeT_more hu (by simpa using hl) (by rw [List.length_append, List.length_take]; omega)
theorem take_cut {c : UInt8} {l : List UInt8} (hc : ¬ c.toNat = 0) (hl : l.length ≤ 262144) (k : Nat) (hk : k < (put c l).1.length) : (take ((put c l).1.take k)).2.2 = 2 := by
  rw [put_ok hc hl] at hk ⊢
  simp only at hk ⊢
  rw [litlen] at hk
  by_cases h5 : k < 5
  · rw [take_few (by rw [List.length_take]; omega)]
  · have e : (lit (sum (c :: Cd.putT l)) ++ c :: Cd.putT l).take k = lit (sum (c :: Cd.putT l)) ++ c :: (Cd.putT l).take (k - 5) := by
      rw [List.take_append, List.take_of_length_le (by rw [lit_len]; omega), lit_len, show k - 4 = (k - 5) + 1 from by omega, List.take_succ_cons]
    rw [e, take_err (t := []) (n := 0) (e := 2) (by rw [litlen]; omega) (by rw [lit4g]; exact hc) (by rw [lit5d]; exact takeT_cut l (k - 5) hl (by omega)) (by omega)]

/-! one byte turned is seen -/
theorem xor_cancel {a b p : Nat} (h : a ^^^ p = b ^^^ p) : a = b := by
  have h2 := congrArg (· ^^^ p) h
  simpa [Nat.xor_assoc] using h2
theorem xor_cancel_l {a b p : Nat} (h : p ^^^ a = p ^^^ b) : a = b := xor_cancel (p := p) (by rw [Nat.xor_comm a p, Nat.xor_comm b p]; exact h)
theorem step_mixed {a b : Nat} (ha : a < 4294967296) (hb : b < 4294967296) (h : a / 2 ^^^ 3988292384 = b / 2) : False := by
  have h2 : 3988292384 = a / 2 ^^^ b / 2 := by rw [← h, ← Nat.xor_assoc, Nat.xor_self, Nat.zero_xor]
  have h3 : a / 2 ^^^ b / 2 < 2 ^ 31 := Nat.xor_lt_two_pow (by omega) (by omega)
  omega
theorem step_inj {a b : Nat} (ha : a < 4294967296) (hb : b < 4294967296) (h : step a = step b) : a = b := by
  by_cases oa : a % 2 = 1
  · by_cases ob : b % 2 = 1
    · rw [step_odd oa, step_odd ob] at h
      have := xor_cancel h; omega
    · rw [step_odd oa, step_even ob] at h
      exact (step_mixed ha hb h).elim
  · by_cases ob : b % 2 = 1
    · rw [step_even oa, step_odd ob] at h
      exact (step_mixed hb ha h.symm).elim
    · rw [step_even oa, step_even ob] at h; omega
theorem steps_inj {a b : Nat} (ha : a < 4294967296) (hb : b < 4294967296) : ∀ k, steps k a = steps k b → a = b
  | 0, h => h
  | k + 1, h => steps_inj ha hb k (step_inj (steps_lt ha k) (steps_lt hb k) h)
theorem byte_inj {a b : Nat} (ha : a < 4294967296) (hb : b < 4294967296) (c : UInt8) (h : byte a c = byte b c) : a = b := by
  have hc := c.toNat_lt
  exact xor_cancel (steps_inj (xor_lt32 ha (by omega)) (xor_lt32 hb (by omega)) 8 h)
theorem byte_inj_c {a : Nat} (ha : a < 4294967296) {c d : UInt8} (h : byte a c = byte a d) : c = d := by
  have hc := c.toNat_lt
  have hd := d.toNat_lt
  exact UInt8.toNat_inj.1 (xor_cancel_l (steps_inj (xor_lt32 ha (by omega)) (xor_lt32 ha (by omega)) 8 h))
theorem run_inj (l : List UInt8) : ∀ {a b : Nat}, a < 4294967296 → b < 4294967296 → run a l = run b l → a = b := by
  induction l with
  | nil => intro a b _ _ h; exact h
  | cons c l ih => intro a b ha hb h; exact byte_inj ha hb c (ih (byte_lt ha c) (byte_lt hb c) h)
theorem sum_turned {a b : List UInt8} {c d : UInt8} (h : c ≠ d) : sum (a ++ c :: b) ≠ sum (a ++ d :: b) := by
  intro e
  unfold sum at e
  have e2 := xor_cancel_l e
  rw [run_app, run_app] at e2
  have hr := run_lt a (n := 4294967295) (by omega)
  exact h (byte_inj_c hr (run_inj b (byte_lt hr c) (byte_lt hr d) e2))

/-- whatever four bytes stand in the sum's place -/
theorem take_form4 {h : List UInt8} {c : UInt8} {l r : List UInt8} (hh : h.length = 4) (hc : ¬ c.toNat = 0) (hl : l.length ≤ 262144) :
    take (h ++ c :: (Cd.putT l ++ r)) = if lit (sum (c :: Cd.putT l)) = h then ((c, l), 5 + (Cd.putT l).length, 0) else ((0, []), 0, 3) := by
  have ht := takeT_putT' l r 262144 (by omega) (by simpa using hl)
  have hlen : (h ++ c :: (Cd.putT l ++ r)).length = 5 + (Cd.putT l ++ r).length := by rw [List.length_append, hh, List.length_cons]; omega
  have h4 : (h ++ c :: (Cd.putT l ++ r)).take 4 = h := List.take_left' hh
  have h4d : (h ++ c :: (Cd.putT l ++ r)).drop 4 = c :: (Cd.putT l ++ r) := List.drop_left' hh
  have h5d : (h ++ c :: (Cd.putT l ++ r)).drop 5 = Cd.putT l ++ r := by
    have : (h ++ c :: (Cd.putT l ++ r)).drop 5 = ((h ++ c :: (Cd.putT l ++ r)).drop 4).drop 1 := by rw [List.drop_drop]
    rw [this, h4d]; rfl
  have hg : (h ++ c :: (Cd.putT l ++ r)).getD 4 0 = c := by
    rw [List.getD_eq_getElem?_getD, List.getElem?_append_right (by omega), hh]; rfl
  have h5 : 5 ≤ (h ++ c :: (Cd.putT l ++ r)).length := by omega
  have h0 : ¬ ((h ++ c :: (Cd.putT l ++ r)).getD 4 0).toNat = 0 := by rw [hg]; exact hc
  have hr : ((h ++ c :: (Cd.putT l ++ r)).drop 4).take ((Cd.putT l).length + 1) = c :: Cd.putT l := by rw [h4d, List.take_succ_cons, List.take_left' rfl]
  by_cases hs : lit (sum (c :: Cd.putT l)) = h
  · rw [take_ok (t := l) (n := (Cd.putT l).length) h5 h0 (by rw [h5d]; exact ht) (by rw [hr, h4]; exact hs), if_pos hs, hg]
  · rw [take_bad (t := l) (n := (Cd.putT l).length) h5 h0 (by rw [h5d]; exact ht) (by rw [hr, h4]; exact hs), if_neg hs]
/-- a frame of which one byte, in its sum, its kind or its load, is another one is refused -/
theorem take_turned {c : UInt8} {l : List UInt8} (hc : ¬ c.toNat = 0) (hl : l.length ≤ 262144) (p : Nat) (x : UInt8) (hp : p < (put c l).1.length) (hpl : p ≤ 4 ∨ (put c l).1.length - l.length ≤ p) (hx : x ≠ (put c l).1.getD p 0) :
    (take ((put c l).1.set p x)).2.2 = 3 := by
  rw [put_ok hc hl] at hp hpl hx ⊢
  simp only at hp hpl hx ⊢
  rw [litlen] at hp hpl
  rcases Nat.lt_trichotomy p 4 with h | h | h
  · have e : (lit (sum (c :: Cd.putT l)) ++ c :: Cd.putT l).set p x = (lit (sum (c :: Cd.putT l))).set p x ++ c :: (Cd.putT l ++ []) := by
      rw [List.set_append_left _ _ (by rw [lit_len]; exact h), List.append_nil]
    rw [e, take_form4 (by rw [List.length_set, lit_len]) hc hl, if_neg]
    intro he
    apply hx
    have := congrArg (fun z => z.getD p 0) he
    simp only [List.getD_eq_getElem?_getD] at this ⊢
    rw [List.getElem?_set_self (by rw [lit_len]; exact h)] at this
    rw [List.getElem?_append_left (by rw [lit_len]; exact h), this]; rfl
  · subst h
    have e : (lit (sum (c :: Cd.putT l)) ++ c :: Cd.putT l).set 4 x = lit (sum (c :: Cd.putT l)) ++ x :: (Cd.putT l ++ []) := by
      rw [List.set_append_right _ _ (by rw [lit_len]; omega), lit_len, List.append_nil]; rfl
    rw [lit4g] at hx
    rw [e]
    by_cases h0 : x.toNat = 0
    · rw [take_zero (by rw [litlen]; omega) (by rw [lit4g]; exact h0)]
    · rw [take_form h0 hl, if_neg]
      intro he
      have := lit_inj (sum_lt _) (sum_lt _) he
      exact sum_turned (a := []) (b := Cd.putT l) hx this
  · obtain ⟨q, hq⟩ : ∃ q, q = p - 5 - (Cd.putU l.length).length := ⟨_, rfl⟩
    have hpt : (Cd.putT l).length = (Cd.putU l.length).length + l.length := by rw [Cd.putT, List.length_append]
    have hql : q < l.length := by omega
    have hpq : p = 4 + 1 + ((Cd.putU l.length).length + q) := by omega
    have hlen : (l.set q x).length = l.length := List.length_set
    have e : (lit (sum (c :: Cd.putT l)) ++ c :: Cd.putT l).set p x = lit (sum (c :: Cd.putT l)) ++ c :: (Cd.putT (l.set q x) ++ []) := by
      rw [List.set_append_right _ _ (by rw [lit_len]; omega), lit_len, show p - 4 = ((Cd.putU l.length).length + q) + 1 from by omega, List.set_cons_succ, List.append_nil]
      unfold Cd.putT
      rw [hlen, List.set_append_right _ _ (by omega), show (Cd.putU l.length).length + q - (Cd.putU l.length).length = q from by omega]
    have hg : (lit (sum (c :: Cd.putT l)) ++ c :: Cd.putT l).getD p 0 = l[q] := by
      rw [List.getD_eq_getElem?_getD, List.getElem?_append_right (by rw [lit_len]; omega), lit_len, show p - 4 = ((Cd.putU l.length).length + q) + 1 from by omega, List.getElem?_cons_succ]
      unfold Cd.putT
      rw [List.getElem?_append_right (by omega), show (Cd.putU l.length).length + q - (Cd.putU l.length).length = q from by omega, List.getElem?_eq_getElem hql]; rfl
    rw [hg] at hx
    rw [e, take_form hc (by rw [hlen]; exact hl), if_neg]
    intro he
    have hs := lit_inj (sum_lt _) (sum_lt _) he
    have e1 : l.set q x = l.take q ++ x :: l.drop (q + 1) := List.set_eq_take_append_cons_drop ▸ (by rw [if_pos hql])
    have e2 : l = l.take q ++ l[q] :: l.drop (q + 1) := by rw [← List.drop_eq_getElem_cons hql, List.take_append_drop]
    have f1 : c :: Cd.putT (l.set q x) = (c :: (Cd.putU l.length ++ l.take q)) ++ x :: l.drop (q + 1) := by unfold Cd.putT; rw [hlen, e1]; simp
    have f2 : c :: Cd.putT l = (c :: (Cd.putU l.length ++ l.take q)) ++ l[q] :: l.drop (q + 1) := by
      unfold Cd.putT
      conv => lhs; rw [e2]
      simp
    rw [f1, f2] at hs
    exact sum_turned hx hs

/-! frames one behind the other -/
theorem allGo_ge (l : List UInt8) (p : Nat) : p ≤ (allGo l p).2 := by
  by_cases h : p < l.length ∧ (take (l.drop p)).2.2 = 0 ∧ 0 < (take (l.drop p)).2.1
  · rw [allGo_more h]
    have := allGo_ge l (p + (take (l.drop p)).2.1)
    simp only; omega
  · rw [allGo_stop h]; exact Nat.le_refl _
termination_by l.length - p
theorem allGo_put {pre r : List UInt8} {c : UInt8} {l : List UInt8} (hc : ¬ c.toNat = 0) (hl : l.length ≤ 262144) :
    allGo (pre ++ ((put c l).1 ++ r)) pre.length = ((pre.length, (c, l)) :: (allGo (pre ++ ((put c l).1 ++ r)) (pre.length + (put c l).1.length)).1, (allGo (pre ++ ((put c l).1 ++ r)) (pre.length + (put c l).1.length)).2) := by
  have ht : take ((pre ++ ((put c l).1 ++ r)).drop pre.length) = ((c, l), (put c l).1.length, 0) := by rw [List.drop_left' rfl]; exact take_put hc hl
  have hp : 5 ≤ (put c l).1.length := by rw [put_ok hc hl]; simp only; rw [litlen]; omega
  have := allGo_more (l := pre ++ ((put c l).1 ++ r)) (p := pre.length) (by rw [ht]; exact ⟨by rw [List.length_append, List.length_append]; omega, rfl, by show 0 < (put c l).1.length; omega⟩)
  rw [ht] at this
  exact this
end Fr
end Go.Proofs.Yteckjhhbljoklaa

namespace Go.Proofs.Yteckjhhbljoklaa
open Go.RowKit
set_option linter.unusedSimpArgs false
set_option linter.unusedVariables false

theorem and_one {q : Nat} (h : q < 4294967296) : bits BinOp.and IntKind.u32 (q : Int) 1 = ((q % 2 : Nat) : Int) := by
  rw [show (1 : Int) = ((1 : Nat) : Int) from rfl, u32_and_nat _ _ h (by omega), Nat.and_one_is_mod]
theorem walk_oddc {n : Nat} (hn : n < 4294967296) (h : n % 2 = 1) : bits BinOp.xor IntKind.u32 ((n : Int) / 2) 3988292384 = (Fr.step n : Int) := by
  rw [← Fr.walk_odd hn h]; congr 1; omega

set_option maxRecDepth 100000 in
set_option maxHeartbeats 1000000 in
theorem sumc_same (s : ByteArray) (w : World) (hs : s.size ≤ maxLen) :
    Calls Try.prog 46 #[.string s] w fun e w' => e = .returned (.int .u32 (Fr.sum s.data.toList)) ∧ w = w' := by
  unfold maxLen at hs
  go_enter Try.func46, Try.ntmps46
  go_wp2_with fail
  go_loop [3, 8] (fun n i => ∃ k m : Nat, k ≤ s.size ∧ i = .int .i64 k ∧ n = .int .u32 m ∧ m = Fr.run 4294967295 (s.data.toList.take k)) (fun _ i => s.size - (intOf i).toNat)
  case atStart => exact ⟨0, _, Nat.zero_le _, rfl, rfl, rfl⟩
  case round =>
    obtain ⟨k, m, hk, rfl, rfl, hm⟩ := hrel
    have hlt0 : m < 4294967296 := by rw [hm]; exact Fr.run_lt _ (by omega)
    have HM := Lib.hid hm
    have HL := Lib.hid hlt0
    clear hm hlt0
    by_cases hlt : k < s.size
    · have hx := Fr.walk_in HL.out s[k]
      have hw := Fr.wrap32_byte s[k]
      have HT := Lib.hid (Cd.take_s s k hlt)
      go_wp2_with fail
      clear hw
      go_loop [3, 17] (fun n j => ∃ i q : Nat, i ≤ 8 ∧ j = .int .i64 i ∧ n = .int .u32 q ∧ q = Fr.steps i (m ^^^ s[k].toNat)) (fun _ j => 8 - (intOf j).toNat)
      case atStart => exact ⟨0, _, Nat.zero_le _, rfl, by first | rfl | rw [hx], rfl⟩
      case round =>
        obtain ⟨i, q, hi, rfl, rfl, hq⟩ := hrel
        have hlq : q < 4294967296 := by rw [hq]; exact Fr.steps_lt (Fr.xor_lt32 HL.out (by have := s[k].toNat_lt; omega)) _
        have HQ := Lib.hid hq
        have HLQ := Lib.hid hlq
        clear hq hlq hx
        by_cases h8 : i < 8
        · have hand := and_one (q := q) HLQ.out
          by_cases ho : q % 2 = 1
          · have hob : (bits BinOp.and IntKind.u32 (q : Int) 1 == 1) = true := by rw [hand]; simp; omega
            have hs1 := walk_oddc HLQ.out ho
            clear hand
            go_wp2
            go_round
            case rel => exact ⟨i + 1, Fr.step q, by omega, by go_num, by first | rfl | rw [hs1], by rw [HQ.out]; rfl⟩
            case measure => simp [intOf]; omega
          · have hob : (bits BinOp.and IntKind.u32 (q : Int) 1 == 1) = false := by rw [hand]; simp; omega
            have HO := Lib.hid ho
            clear ho hand
            go_wp2
            go_round
            case rel => exact ⟨i + 1, Fr.step q, by omega, by go_num, by rw [Fr.step_even HO.out]; simp, by rw [HQ.out]; rfl⟩
            case measure => simp [intOf]; omega
        · obtain rfl : i = 8 := by omega
          go_wp2
          go_round
          case rel => exact ⟨k + 1, q, by omega, by go_num, rfl, by rw [HT.out, Fr.run_snoc, ← HM.out]; exact HQ.out⟩
          case measure => simp [intOf]; omega
    · obtain rfl : k = s.size := by omega
      go_wp2
      go_ret
      exact ⟨by rw [Fr.sum, ← Cd.take_all s, ← HM.out, ← Fr.walk_out HL.out]; rfl, rfl⟩

theorem litByte_shr (n k : Nat) : Value.int .u8 ((n : Int) / 2 ^ (8 * k) % 256) = .int .u8 ((Fr.litByte n k).toNat : Int) := by
  congr 1; unfold Fr.litByte; rw [UInt8.toNat_ofNat', show (256 : Nat) ^ k = 2 ^ (8 * k) from by rw [Nat.pow_mul]]
  have : ((2 : Int) ^ (8 * k)) = ((2 ^ (8 * k) : Nat) : Int) := by simp
  rw [this]; omega

set_option maxRecDepth 100000 in
set_option maxHeartbeats 1000000 in
theorem putSum_any (N : Int) (n : Nat) (w : World) (hN : N = n) (h1 : n < 4294967296) :
    Calls Try.prog 45 #[.int .u32 N] w fun e w' => e = .returned (.string (Cd.bs (Fr.lit n))) ∧ Below w.heap.size w w' := by
  subst hN
  have HN := Lib.hid h1
  clear h1
  go_enter Try.func45, Try.ntmps45
  go_wp2_with fail
  go_loopw [5] (fun i wr => ∃ (k : Nat), k ≤ 4 ∧ i = .int .i64 k ∧ Row4 wr w.heap.size (Fr.litPart n k) ∧ Below w.heap.size w wr) (fun i _ => 4 - (intOf i).toNat)
  case atStart => exact ⟨0, Nat.zero_le _, rfl, Row4.new _ _ _, (Below.refl _ _).alloc (Nat.le_refl _) _⟩
  case round =>
    obtain ⟨k, hk, rfl, hr, hb⟩ := hrel
    by_cases hk4 : k < 4
    · have hc := (hr k hk4).1
      have hf := (hr k hk4).2
      have HR := Lib.hid hr
      clear hr
      go_wp2
      go_roundw
      case rel => exact ⟨k + 1, by omega, by go_num, HR.out.store hk4 (litByte_shr n k), hb.setCell (p := ⟨w.heap.size, k, none⟩) (Nat.le_refl _) _⟩
      case measure => simp [intOf]; omega
    · obtain rfl : k = 4 := by omega
      have hcv := hr.conv (c := 4) (Fr.litPart_len _ _)
      go_wp2
      go_ret
      exact ⟨by rw [Fr.litPart_done]; rfl, hb⟩
end Go.Proofs.Yteckjhhbljoklaa

namespace Go.Proofs.Yteckjhhbljoklaa
open Go.RowKit
set_option linter.unusedSimpArgs false
set_option linter.unusedVariables false

theorem sumc_any (s : ByteArray) (w : World) (hs : s.size ≤ maxLen) :
    Calls Try.prog 46 #[.string s] w fun e w' => e = .returned (.int .u32 (Fr.sum s.data.toList)) ∧ Below w.heap.size w w' :=
  (sumc_same s w hs).mono fun e w' ⟨he, hw⟩ => ⟨he, by subst hw; exact Below.refl _ _⟩

set_option maxRecDepth 100000 in
set_option maxHeartbeats 1000000 in
theorem framePutc_any (K : Int) (c : UInt8) (hK : K = (c.toNat : Int)) (l : List UInt8) (w : World) (hs : l.length ≤ 140737488351232) :
    Calls Try.prog 22 #[.agg #[.int .u8 K, .string (Cd.bs l)]] w fun e w' => e = .returned (.tuple #[.string (Cd.bs (Fr.put c l).1), .int .i64 (Fr.put c l).2]) ∧ Below w.heap.size w w' := by
  have hsz : (Cd.bs l).size = l.length := rfl
  have HSZ := Lib.hid hsz
  clear hsz
  by_cases h0 : c.toNat = 0
  · have hb : (K == 0) = true := by subst hK; simp [h0]
    rw [Fr.put_zero h0]
    clear hK h0
    go_enter Try.func22, Try.ntmps22
    go_wp2
    go_ret2
    exact ⟨rfl, (Below.refl _ _).alloc (Nat.le_refl _) _⟩
  · have hb : (K == 0) = false := by subst hK; simp; omega
    by_cases hl : l.length ≤ 262144
    · rw [Fr.put_ok h0 hl]
      have HK := Lib.hid hK
      have hcv := fun W g h => conv_cell W g K c hK h
      clear hK h0
      have hT := fun W => putTc_any (Cd.bs l) W (by rw [HSZ.out]; omega)
      have HT := Lib.hid hT
      clear hT
      have hlen : (Cd.putT l).length ≤ 262154 := by have := Cd.putU_len10 l.length (by omega); rw [Cd.putT, List.length_append]; omega
      go_enter Try.func22, Try.ntmps22
      go_wp2_with fail
      go_cut [4] (fun r wx => r = .string (Cd.bs (c :: Cd.putT l)) ∧ Below w.heap.size w wx)
      case first =>
        go_region_with (go_at_call 44; refine (HT.out _).mono ?_; rintro e w1 ⟨rfl, hb1⟩; obtain ⟨hkc, hkf⟩ := bcell hb1; have hsz1 := hb1.size; simp at hsz1)
        all_goals (try go_wp2_with fail)
        all_goals go_meet
        all_goals refine ⟨by rw [ByteArray.mk_append_mk]; rfl, ?_⟩
        all_goals repeat (first
          | exact Below.refl _ _
          | (refine Below.trans ?_ (hb1.mono ?_))
          | apply Below.drew
          | (refine Below.alloc ?_ ?_ _)
          | exact Nat.le_refl _
          | omega
          | (focus (simp; done))
          | (focus (simp; omega)))
      case rest =>
        obtain ⟨rfl, hbc⟩ := hcut
        have hS := fun W => sumc_same (Cd.bs (c :: Cd.putT l)) W (by show (c :: Cd.putT l).length ≤ maxLen; unfold maxLen; rw [List.length_cons]; omega)
        have HS := Lib.hid hS
        have HL := Lib.hid (fun W => putSum_any (Fr.sum (c :: Cd.putT l) : Int) (Fr.sum (c :: Cd.putT l)) W rfl (Fr.sum_lt _))
        clear hS hcv
        have hll : (Fr.lit (Fr.sum (c :: Cd.putT l))).length ≤ 4 := by rw [Fr.lit_len]; omega
        have hsl : (Cd.bs (c :: Cd.putT l)).size ≤ 262155 := by show (c :: Cd.putT l).length ≤ 262155; rw [List.length_cons]; omega
        go_wp2_with (first
          | (go_at_call 46; refine (HS.out _).mono ?_; rintro e w' ⟨rfl, rfl⟩)
          | (go_at_call 45; refine (HL.out _).mono ?_; rintro e w3 ⟨rfl, hb3⟩))
        go_ret2
        exact ⟨by rw [ByteArray.mk_append_mk]; rfl, hbc.trans (hb3.mono hbc.size)⟩
    · have hlb : (262144 : Int) < l.length := by omega
      rw [Fr.put_long (by omega)]
      clear hK h0
      go_enter Try.func22, Try.ntmps22
      go_wp2
      go_ret2
      exact ⟨rfl, (Below.refl _ _).alloc (Nat.le_refl _) _⟩
end Go.Proofs.Yteckjhhbljoklaa

/-
  The program's manifest: putEdit's closure that puts numbers.
-/
namespace Go.Proofs.Yteckjhhbljoklaa
open Go.RowKit
set_option linter.unusedSimpArgs false
set_option linter.unusedVariables false
namespace Md10
open Mf
/-- a row of numbers that stands while the builder grows -/
def RowN (B b : Nat) (W : World) (v : Value) (L : List Int) : Prop :=
  ∃ (a : Option Addr) (cap g off : Nat), v = .slice a L.length cap ∧ (0 < L.length → a = some ⟨g, off, none⟩ ∧ (g < B ∨ (g ≠ b ∧ ∃ cs t, t ≠ 5 ∧ Ob.Obj W g t cs))) ∧ ∀ j (h : j < L.length), W.cell? ⟨g, off + j, none⟩ = some (.int .u64 L[j])
theorem RowN.step {B b : Nat} {W W' : World} {v : Value} {L : List Int} (h : RowN B b W v L) (hb : Below B W W') (hr : Sb.Rest b W W') : RowN B b W' v L := by
  obtain ⟨a, cap, g, off, h1, h2, h3⟩ := h
  refine ⟨a, cap, g, off, h1, fun h0 => ?_, fun j hj => ?_⟩
  · obtain ⟨e, h4⟩ := h2 h0
    refine ⟨e, h4.imp id ?_⟩
    rintro ⟨n, cs, t, ht, ho⟩
    exact ⟨n, cs, t, ht, hr.obj ho n ht⟩
  · obtain ⟨e, h4⟩ := h2 (by omega)
    rcases h4 with h4 | ⟨n, cs, t, ht, ho⟩
    · exact (hb.cell (p := ⟨g, off + j, none⟩) h4).trans (h3 j hj)
    · have h5 := h3 j hj
      have o2 := hr.obj ho n ht
      rw [ho.cell] at h5
      rw [o2.cell]
      exact h5
theorem RowN.lt {B b : Nat} {W : World} {v : Value} {L : List Int} (h : RowN B b W v L) {j : Nat} (hj : j < L.length) (hB : B ≤ W.heap.size) : ∃ cap g off, v = .slice (some ⟨g, off, none⟩) L.length cap ∧ g < W.heap.size ∧ W.cell? ⟨g, off + j, none⟩ = some (.int .u64 L[j]) := by
  obtain ⟨a, cap, g, off, h1, h2, h3⟩ := h
  obtain ⟨rfl, h4⟩ := h2 (by omega)
  refine ⟨cap, g, off, h1, ?_, h3 j hj⟩
  rcases h4 with h4 | ⟨n, cs, t, ht, ho⟩
  · omega
  · exact ho.lt
def u64s (L : List Int) : Prop := ∀ d ∈ L, 0 ≤ d ∧ d < 18446744073709551616
/-- amid the closure -/
structure P1 (B b : Nat) (w : World) (l : List UInt8) (W : World) : Prop where
  is : Sb.Is B b l W
  be : Below B w W
  re : Sb.Rest b w W
theorem P1.next {B b : Nat} {w W W' : World} {l : List UInt8} (hB : B ≤ w.heap.size) (h : P1 B b w l W) (hb : Below W.heap.size W W') : P1 B b w l W' :=
  ⟨h.is.below hb, h.be.trans (hb.mono (by have := h.be.size; omega)), h.re.trans (Sb.Rest.below hb)⟩
theorem P1.write {B b : Nat} {w W : World} {l : List UInt8} (hB : B ≤ w.heap.size) (h : P1 B b w l W) (X : List UInt8) (hl : l.length + X.length ≤ 140737488355328) :
    Calls Try.prog 48 #[.pointer (some ⟨b, 0, none⟩), .string (Cd.bs X)] W fun e w' => e = .returned (.tuple #[.int .i64 (X.length : Nat), .nilIface]) ∧ P1 B b w (l ++ X) w' :=
  (Sb.writeString_any B b l X W h.is hl (by have := h.be.size; omega)).mono fun e w' ⟨he, h1, h2, h3⟩ => ⟨he, h1, h.be.trans h2, h.re.trans h3⟩
theorem putDs_len10 : ∀ (L : List Int), u64s L → (L.flatMap putD).length ≤ 10 * L.length
  | [], _ => by simp
  | x :: r, h => by
    rw [List.flatMap_cons, List.length_append, List.length_cons]
    have := h x (List.mem_cons_self ..)
    have : (putD x).length ≤ 10 := Cd.putU_len10 x.toNat (by omega)
    have := putDs_len10 r (fun q hq => h q (List.mem_cons_of_mem _ hq))
    omega

set_option maxRecDepth 100000 in
set_option maxHeartbeats 4000000 in
theorem put1_any (B b : Nat) (l : List UInt8) (v : Value) (L : List Int) (w : World) (hI : Sb.Is B b l w) (hR : RowN B b w v L) (hB : B ≤ w.heap.size) (hin : u64s L) (hl : l.length ≤ 1000000) (hn : L.length ≤ 1000000) :
    Calls Try.prog 47 #[v, .pointer (some ⟨b, 0, none⟩)] w fun e w' => e = .returned (.tuple #[]) ∧ P1 B b w (l ++ L.flatMap putD) w' := by
  have HR := Lib.hid hR
  have HB := Lib.hid hB
  obtain ⟨a, cap, g, off, rfl, _⟩ := hR
  have HI := Lib.hid hI
  clear hI
  go_enter Try.func47, Try.ntmps47
  go_wp2_with fail
  go_loopw [7] (fun i wr => ∃ q : Nat, q ≤ L.length ∧ i = .int .i64 (q : Int) ∧ P1 B b w (l ++ (L.take q).flatMap putD) wr) (fun i _ => L.length - (intOf i).toNat)
  case atStart => exact ⟨0, Nat.zero_le _, rfl, by simpa using ⟨HI.out, Below.refl _ _, Sb.Rest.refl _ _⟩⟩
  case round =>
    obtain ⟨q, hq, rfl, hP⟩ := hrel
    obtain ⟨wo, rfl⟩ : ∃ wo : World, wo = wr := ⟨_, rfl⟩
    by_cases hlt : q < L.length
    · obtain ⟨cap', g', off', hv, hgl, e0⟩ := (HR.out.step hP.be hP.re).lt hlt (by have := hP.be.size; have := HB.out; omega)
      obtain ⟨rfl, _, rfl⟩ : a = some ⟨g', off', none⟩ ∧ L.length = L.length ∧ cap = cap' := by simpa using hv
      have hi1 : (0 : Int) ≤ (q : Int) ∧ (q : Int) < (L.length : Int) := by omega
      have hd := hin L[q] (List.getElem_mem hlt)
      have hsl : (l ++ (L.take q).flatMap putD).length ≤ 12000000 := by
        rw [List.length_append]
        have := putDs_len10 (L.take q) (fun p hp => hin p (List.mem_of_mem_take hp))
        have : (L.take q).length ≤ 1000000 := by simp; omega
        omega
      have HTS := Lib.hid (show l ++ (L.take (q + 1)).flatMap putD = (l ++ (L.take q).flatMap putD) ++ putD L[q] by rw [drops_snoc hlt, List.append_assoc])
      clear hv
      generalize L[q] = d at *
      have HQ := Lib.hid (fun W => putUc_at d d.toNat W (by omega) (by omega))
      have p1 := Cd.putU_len10 d.toNat (by omega)
      generalize l ++ (L.take q).flatMap putD = S3 at *
      have HWR := Lib.hid (fun W (h : P1 B b w S3 W) => h.write HB.out (Cd.putU d.toNat) (by omega))
      go_wp2_with (first
        | (go_at_call 49; (with_reducible refine (HQ.out _).mono ?_); rintro e w3 ⟨rfl, hb3⟩; have hP3 := hP.next HB.out hb3)
        | (go_at_call 48; (with_reducible refine (HWR.out _ hP3).mono ?_); rintro e w4 ⟨rfl, hP4⟩))
      go_roundw
      case rel => exact ⟨q + 1, by omega, by go_num, by rw [HTS.out]; exact hP4⟩
      case measure => simp [intOf]; omega
    · obtain rfl : q = L.length := by omega
      rw [List.take_length] at hP
      go_wp2_with fail
      go_end0
      exact ⟨rfl, hP⟩
end Md10
end Go.Proofs.Yteckjhhbljoklaa

/-
  The program's manifest: putEdit, Encode.
-/
namespace Go.Proofs.Yteckjhhbljoklaa
open Go.RowKit
set_option linter.unusedSimpArgs false
set_option linter.unusedVariables false
namespace Md10
open Mf

theorem P1.trans {B b : Nat} {w W W' : World} {l l' : List UInt8} (h : P1 B b w l W) (k : P1 B b W l' W') : P1 B b w l' W' := ⟨k.is, h.be.trans k.be, h.re.trans k.re⟩
theorem P1.lt {B b : Nat} {w W : World} {l : List UInt8} (h : P1 B b w l W) : b < W.heap.size := h.is.lt
theorem P1.write2 {B b : Nat} {w W : World} {l : List UInt8} (hB : B ≤ w.heap.size) (h : P1 B b w l W) (X : List UInt8) (hl : l.length + X.length ≤ 140737488355328) :
    Calls Try.prog 48 #[.pointer (some ⟨b, 0, none⟩), .string (Cd.bs X)] W fun e w' => e = .returned (.tuple #[.int .i64 (X.length : Nat), .nilIface]) ∧ P1 B b w (l ++ X) w' ∧ Sb.Rest b W w' :=
  (Sb.writeString_any B b l X W h.is hl (by have := h.be.size; omega)).mono fun e w' ⟨he, h1, h2, h3⟩ => ⟨he, ⟨h1, h.be.trans h2, h.re.trans h3⟩, h3⟩
theorem row4 (B b : Nat) (W : World) (hb : b < W.heap.size) (x y z u : Int) : RowN B b (W.alloc (.cells #[.int .u64 x, .int .u64 y, .int .u64 z, .int .u64 u] 22)) (.slice (some ⟨W.heap.size, 0, none⟩) 4 4) [x, y, z, u] := by
  have ho := Ob.Obj.new W 22 [.int .u64 x, .int .u64 y, .int .u64 z, .int .u64 u]
  refine ⟨_, 4, W.heap.size, 0, rfl, fun _ => ⟨rfl, .inr ⟨by omega, _, _, by decide, ho⟩⟩, fun j hj => ?_⟩
  match j, hj with
  | 0, _ => exact ho.cell 0
  | 1, _ => exact ho.cell 1
  | 2, _ => exact ho.cell 2
  | 3, _ => exact ho.cell 3
theorem row1 (B b : Nat) (W : World) (hb : b < W.heap.size) (x : Int) : RowN B b (W.alloc (.cells #[.int .u64 x] 22)) (.slice (some ⟨W.heap.size, 0, none⟩) 1 1) [x] := by
  have ho := Ob.Obj.new W 22 [.int .u64 x]
  refine ⟨_, 1, W.heap.size, 0, rfl, fun _ => ⟨rfl, .inr ⟨by omega, _, _, by decide, ho⟩⟩, fun j hj => ?_⟩
  match j, hj with
  | 0, _ => exact ho.cell 0
theorem put4_any {B b : Nat} {w W : World} {l : List UInt8} (hB : B ≤ w.heap.size) (h : P1 B b w l W) (x y z u : Int) (hin : u64s [x, y, z, u]) (hl : l.length ≤ 1000000) :
    Calls Try.prog 47 #[.slice (some ⟨W.heap.size, 0, none⟩) 4 4, .pointer (some ⟨b, 0, none⟩)] (W.alloc (.cells #[.int .u64 x, .int .u64 y, .int .u64 z, .int .u64 u] 22)) fun e w' => e = .returned (.tuple #[]) ∧ P1 B b w (l ++ (putD x ++ putD y ++ putD z ++ putD u)) w' ∧ Sb.Rest b W w' := by
  have hw := h.be.size
  have hA : Below W.heap.size W (W.alloc (.cells #[.int .u64 x, .int .u64 y, .int .u64 z, .int .u64 u] 22)) := (Below.refl _ _).alloc (Nat.le_refl _) _
  refine (put1_any B b l _ [x, y, z, u] _ (h.is.below hA) (row4 B b W h.lt x y z u) (by simp; omega) hin hl (by simp)).mono fun e w' ⟨he, hp⟩ => ⟨he, ?_, (Sb.Rest.below hA).trans hp.re⟩
  have e1 : [x, y, z, u].flatMap putD = putD x ++ putD y ++ putD z ++ putD u := by simp
  rw [e1] at hp
  exact (h.next hB hA).trans hp
theorem put1n_any {B b : Nat} {w W : World} {l : List UInt8} (hB : B ≤ w.heap.size) (h : P1 B b w l W) (x : Int) (hin : u64s [x]) (hl : l.length ≤ 1000000) :
    Calls Try.prog 47 #[.slice (some ⟨W.heap.size, 0, none⟩) 1 1, .pointer (some ⟨b, 0, none⟩)] (W.alloc (.cells #[.int .u64 x] 22)) fun e w' => e = .returned (.tuple #[]) ∧ P1 B b w (l ++ putD x) w' := by
  have hw := h.be.size
  have hA : Below W.heap.size W (W.alloc (.cells #[.int .u64 x] 22)) := (Below.refl _ _).alloc (Nat.le_refl _) _
  refine (put1_any B b l _ [x] _ (h.is.below hA) (row1 B b W h.lt x) (by simp; omega) hin hl (by simp)).mono fun e w' ⟨he, hp⟩ => ⟨he, ?_⟩
  have e1 : [x].flatMap putD = putD x := by simp
  rw [e1] at hp
  exact (h.next hB hA).trans hp
/-- the table's box, amid a round -/
def TbO (o : Nat) (x : Tbl) (W : World) : Prop := Ob.Obj W o 44 [.int .u64 x.num, .int .i64 x.lev, .int .i64 x.siz, .int .i64 x.cnt, .string (Cd.bs x.lo), .string (Cd.bs x.hi)] ∧ W.cell? ⟨o, 4, none⟩ = some (.string (Cd.bs x.lo)) ∧ W.cell? ⟨o, 5, none⟩ = some (.string (Cd.bs x.hi))
theorem TbO.of {o : Nat} {x : Tbl} {W : World} (h : Ob.Obj W o 44 [.int .u64 x.num, .int .i64 x.lev, .int .i64 x.siz, .int .i64 x.cnt, .string (Cd.bs x.lo), .string (Cd.bs x.hi)]) : TbO o x W := ⟨h, h.cell 4, h.cell 5⟩

set_option maxRecDepth 100000 in
set_option maxHeartbeats 8000000 in
theorem putEdit_any (e : Ed) (av dv : Value) (w : World) (hE : EdIn w.heap.size w e av dv) (hm : mayE e = true) :
    Calls Try.prog 23 #[edV e av dv] w fun r w' => r = .returned (.string (Cd.bs (loadE e))) ∧ Below w.heap.size w w' := by
  have ok := eok hm
  have hW : Below w.heap.size w (w.alloc (.cells #[.int .u64 e.next, .int .u64 e.seq, .int .u64 e.log, av, dv] 26)) := (Below.refl _ _).alloc (Nat.le_refl _) _
  have bx := Ob.Obj.new w 26 [.int .u64 e.next, .int .u64 e.seq, .int .u64 e.log, av, dv]
  obtain ⟨⟨aa, acap, fb, fo, rfl, ha, hac⟩, ⟨da, dcap, gb, go', rfl, hd, hdc⟩, each, ds, n0, n1, s0, s1, l0, l1, many, few⟩ := hE
  have HAC := Lib.hid hac
  have HDC := Lib.hid hdc
  have HOK := Lib.hid ok
  have hdh : headE e = Cd.putU e.next.toNat ++ Cd.putU e.seq.toNat ++ Cd.putU e.log.toNat ++ Cd.putU e.add.length := rfl
  have hdl : loadE e = headE e ++ e.add.flatMap putTab ++ Cd.putU e.drop.length ++ e.drop.flatMap putD := rfl
  have HDH := Lib.hid hdh
  have HDL := Lib.hid hdl
  have hhd := headE_len ok
  have k4 := ok.add
  have k5 := ok.drop
  have k1 := ok.next
  have k2 := ok.seq
  have k3 := ok.log
  clear hac hdc ok hdh hdl each ds hm
  generalize loadE e = ld at *
  generalize hHE : headE e = HD at *
  clear hHE
  obtain ⟨next, seq, log, add, drop⟩ := e
  unfold edV
  simp only at *
  go_enter Try.func23, Try.ntmps23
  go_upto_region 3 with fail
  obtain ⟨wA, hwA⟩ : ∃ wA, wA = (w.alloc (.cells #[.int .u64 next, .int .u64 seq, .int .u64 log, .slice aa add.length acap, .slice da drop.length dcap] 26)).alloc (.cells #[.pointer none, .slice none 0 0] 92) := ⟨_, rfl⟩
  obtain ⟨bb, hbb⟩ : ∃ bb, bb = w.heap.size + 1 := ⟨_, rfl⟩
  have hP0 : P1 bb bb wA [] wA := by
    have h := Sb.Is.new (w.alloc (.cells #[.int .u64 next, .int .u64 seq, .int .u64 log, .slice aa add.length acap, .slice da drop.length dcap] 26))
    rw [show (w.alloc (.cells #[.int .u64 next, .int .u64 seq, .int .u64 log, .slice aa add.length acap, .slice da drop.length dcap] 26)).heap.size = bb by simp [hbb], ← hwA] at h
    exact ⟨h, Below.refl _ _, Sb.Rest.refl _ _⟩
  have hWA : Below w.heap.size w wA := by rw [hwA]; exact hW.alloc (by simp) _
  have hbA : bb ≤ wA.heap.size := by rw [hwA, hbb]; simp
  have hb0 : w.heap.size < bb := by omega
  have bA : Ob.Obj wA w.heap.size 26 [.int .u64 next, .int .u64 seq, .int .u64 log, .slice aa add.length acap, .slice da drop.length dcap] := by rw [hwA]; exact bx.alloc _
  rw [← hbb, ← hwA]
  clear hwA hbb hW bx
  have BX := Lib.hid (fun W (h : Below bb wA W) => show W.heap[w.heap.size]? = some (.cells #[.int .u64 next, .int .u64 seq, .int .u64 log, .slice aa add.length acap, .slice da drop.length dcap] 26 (0, 0)) from (h.block _ hb0).trans bA)
  have HBA := Lib.hid hbA
  have a0 := bA.cell 0
  have a1 := bA.cell 1
  have a2 := bA.cell 2
  have a3 := bA.cell 3
  simp at a0 a1 a2 a3
  have hal := bA.lt
  have P4 := Lib.hid (put4_any hbA hP0 next seq log (add.length : Int) (by intro d hd; simp at hd; omega) (by simp))
  have hwL : IntKind.u64.wrap (add.length : Int) = (add.length : Int) := Cd.wrapU_nat (by omega)
  clear bA
  go_wp2_with (go_at_call 47; (with_reducible refine P4.out.mono ?_); rintro e w1 ⟨rfl, hP1, hr1⟩; have c3 := (show w1.cell? ⟨w.heap.size, 3, none⟩ = some (.slice aa add.length acap) from by simp [World.cell?, BX.out _ hP1.be]); have hz1 := (show w.heap.size < w1.heap.size from Nat.lt_of_lt_of_le hal hP1.be.size))
  have hP2 : P1 bb bb wA HD w1 := by
    have e : [] ++ (putD next ++ putD seq ++ putD log ++ putD (add.length : Int)) = HD := by rw [HDH.out]; simp [putD]
    rw [e] at hP1
    exact hP1
  have HP2 := Lib.hid hP2
  clear P4 hP1 hr1 hwL a0 a1 a2 a3 c3 hP2 hz1
  go_loopw [24] (fun i wr => ∃ q : Nat, q ≤ add.length ∧ i = .int .i64 (q : Int) ∧ P1 bb bb wA (HD ++ (add.take q).flatMap putTab) wr) (fun i _ => add.length - (intOf i).toNat)
  case atStart => exact ⟨0, Nat.zero_le _, rfl, by simpa using HP2.out⟩
  case round =>
    obtain ⟨q, hq, rfl, hP⟩ := hrel
    obtain ⟨wo, rfl⟩ : ∃ wo : World, wo = wr := ⟨_, rfl⟩
    have hB : Below w.heap.size w wo := hWA.trans (hP.be.mono (by omega))
    have hsl : (HD ++ (add.take q).flatMap putTab).length ≤ 300000 := by
      rw [List.length_append]
      have := putTabs_len (add.take q) (fun p hp => HOK.out.adds p (List.mem_of_mem_take hp))
      have : (add.take q).length ≤ 1000 := by simp; omega
      omega
    by_cases hlt : q < add.length
    · obtain ⟨rfl, hfb⟩ := ha (by omega)
      obtain ⟨e0, e1, e2, e3, e4, e5⟩ := (HAC.out q hlt).below hB hfb
      have hmt := HOK.out.adds add[q] (List.getElem_mem hlt)
      have ht := tok hmt
      have HTS := Lib.hid (show HD ++ (add.take (q + 1)).flatMap putTab = (HD ++ (add.take q).flatMap putTab) ++ putTab add[q] by rw [tabs_snoc hlt, List.append_assoc])
      have hi1 : (0 : Int) ≤ (q : Int) ∧ (q : Int) < (add.length : Int) := by omega
      have hwb : fb < wo.heap.size := by have := hB.size; omega
      clear hmt
      generalize add[q] = x at *
      obtain ⟨x1, x2, x3, x4, x5, x6⟩ := x
      obtain ⟨t1, t2, t3, t4, t5, t6, t7, t8, t9, t10, t11, t12⟩ := ht
      simp only at e0 e1 e2 e3 e4 e5 t1 t2 t3 t4 t5 t6 t7 t8 t9 t10 t11 t12
      have HDB := Lib.hid (show putTab ⟨x1, x2, x3, x4, x5, x6⟩ = (putD x1 ++ putD x2 ++ putD x3 ++ putD x4) ++ (Cd.putT x5 ++ Cd.putT x6) by unfold putTab putD; simp only [List.append_assoc])
      have HQ5 := Lib.hid (fun W => show Calls Try.prog 44 #[.string (Cd.bs x5)] W fun e w' => e = .returned (.string (Cd.bs (Cd.putT x5))) ∧ Below W.heap.size W w' from putTc_any (Cd.bs x5) W (by show x5.length ≤ _; omega))
      have HQ6 := Lib.hid (fun W => show Calls Try.prog 44 #[.string (Cd.bs x6)] W fun e w' => e = .returned (.string (Cd.bs (Cd.putT x6))) ∧ Below W.heap.size W w' from putTc_any (Cd.bs x6) W (by show x6.length ≤ _; omega))
      have p1 := Cd.putU_len10 x1.toNat (by omega)
      have p2 := Cd.putU_len10 x2.toNat (by omega)
      have p3 := Cd.putU_len10 x3.toNat (by omega)
      have p4 := Cd.putU_len10 x4.toNat (by omega)
      have p5 := putT_len t10
      have p6 := putT_len t12
      have hwx2 := wrapT (x := x2) (by omega) (by omega)
      have hwx3 := wrapT (x := x3) (by omega) (by omega)
      have hwx4 := wrapT (x := x4) (by omega) (by omega)
      generalize HD ++ (add.take q).flatMap putTab = S1 at *
      have hin4 : u64s [x1, x2, x3, x4] := by intro d hd; simp at hd; omega
      obtain ⟨S2, hS2⟩ : ∃ S2, S2 = S1 ++ (putD x1 ++ putD x2 ++ putD x3 ++ putD x4) := ⟨_, rfl⟩
      have hsl2 : S2.length ≤ 300040 := by rw [hS2]; simp only [List.length_append, putD]; omega
      have HF := Lib.hid (show HD ++ (add.take (q + 1)).flatMap putTab = S2 ++ (Cd.putT x5 ++ Cd.putT x6) by rw [HTS.out, HDB.out, hS2]; simp only [List.append_assoc])
      obtain ⟨wB, hwB⟩ : ∃ wB, wo.alloc (.cells #[.int .u64 x1, .int .i64 x2, .int .i64 x3, .int .i64 x4, .string (Cd.bs x5), .string (Cd.bs x6)] 44) = wB := ⟨_, rfl⟩
      have hoB : Ob.Obj wB wo.heap.size 44 [.int .u64 x1, .int .i64 x2, .int .i64 x3, .int .i64 x4, .string (Cd.bs x5), .string (Cd.bs x6)] := by rw [← hwB]; exact Ob.Obj.new wo _ _
      have hPB : P1 bb bb wA S1 wB := by rw [← hwB]; exact hP.next hbA ((Below.refl _ _).alloc (Nat.le_refl _) _)
      have hne : wo.heap.size ≠ bb := by have := hP.lt; omega
      have P4 := Lib.hid (put4_any hbA hPB x1 x2 x3 x4 hin4 (by omega))
      rw [← hS2] at P4
      have b0 := hoB.cell 0
      have b1 := hoB.cell 1
      have b2 := hoB.cell 2
      have b3 := hoB.cell 3
      simp at b0 b1 b2 b3
      have hbl := hoB.lt
      clear HTS HDB hS2 t1 t2 t3 t4 t5 t6 t7 t8 t9 t10 t11 t12 p1 p2 p3 p4 hin4
      go_upto_block 1 with fail
      go_cut [] from 26 to 49 (fun wx => P1 bb bb wA (S2 ++ (Cd.putT x5 ++ Cd.putT x6)) wx)
      case first =>
        go_wp2_with (first
          | (go_at_call 47; (try rw [hwB]); (with_reducible refine P4.out.mono ?_); rintro e w2 ⟨rfl, hP2, hr2⟩))
        have hT2 := TbO.of (x := ⟨x1, x2, x3, x4, x5, x6⟩) (hr2.obj hoB hne (by decide))
        unfold TbO at hT2
        simp only at hT2
        have HS0 := Lib.hid hT2
        have HS1 := Lib.hid (show Ob.Obj w2.drew wo.heap.size 44 [.int .u64 x1, .int .i64 x2, .int .i64 x3, .int .i64 x4, .string (Cd.bs x5), .string (Cd.bs x6)] ∧ w2.drew.cell? ⟨wo.heap.size, 4, none⟩ = some (.string (Cd.bs x5)) ∧ w2.drew.cell? ⟨wo.heap.size, 5, none⟩ = some (.string (Cd.bs x6)) from hT2)
        have NX := Lib.hid (fun W W' (h : Ob.Obj W wo.heap.size 44 [.int .u64 x1, .int .i64 x2, .int .i64 x3, .int .i64 x4, .string (Cd.bs x5), .string (Cd.bs x6)] ∧ W.cell? ⟨wo.heap.size, 4, none⟩ = some (.string (Cd.bs x5)) ∧ W.cell? ⟨wo.heap.size, 5, none⟩ = some (.string (Cd.bs x6))) (hb : Below W.heap.size W W') => TbO.of (x := ⟨x1, x2, x3, x4, x5, x6⟩) (h.1.below hb))
        have NY := Lib.hid (fun W W' (h : Ob.Obj W wo.heap.size 44 [.int .u64 x1, .int .i64 x2, .int .i64 x3, .int .i64 x4, .string (Cd.bs x5), .string (Cd.bs x6)] ∧ W.cell? ⟨wo.heap.size, 4, none⟩ = some (.string (Cd.bs x5)) ∧ W.cell? ⟨wo.heap.size, 5, none⟩ = some (.string (Cd.bs x6))) (hr : Sb.Rest bb W W') => TbO.of (x := ⟨x1, x2, x3, x4, x5, x6⟩) (hr.obj h.1 hne (by decide)))
        unfold TbO at NX NY
        simp only at NX NY
        have q1 : ¬ 9223372036854775807 < (Cd.putT x5).length + (Cd.putT x6).length := by omega
        have hPD := hP2.next HBA.out (Below.refl _ _).drew
        have WR := Lib.hid (fun W (h : P1 bb bb wA S2 W) => h.write2 HBA.out (Cd.putT x5 ++ Cd.putT x6) (by rw [List.length_append]; omega))
        clear hT2 hoB hPB hP
        go_region_held3 (fun W => Ob.Obj W wo.heap.size 44 [.int .u64 x1, .int .i64 x2, .int .i64 x3, .int .i64 x4, .string (Cd.bs x5), .string (Cd.bs x6)] ∧ W.cell? ⟨wo.heap.size, 4, none⟩ = some (.string (Cd.bs x5)) ∧ W.cell? ⟨wo.heap.size, 5, none⟩ = some (.string (Cd.bs x6)))
          (first | exact HS0.out | exact HS1.out | exact NX.out _ _ (by assumption) hb3 | exact NY.out _ _ (by assumption) hr3)
          (first
          | (go_at_call 44; (with_reducible refine (HQ5.out _).mono ?_); rintro e w3 ⟨rfl, hb3⟩; have hp3 := (show P1 bb bb wA S2 _ by assumption).next HBA.out hb3)
          | (go_at_call 44; (with_reducible refine (HQ6.out _).mono ?_); rintro e w3 ⟨rfl, hb3⟩; have hp3 := (show P1 bb bb wA S2 _ by assumption).next HBA.out hb3)
          | (go_at_call 48; rw [ByteArray.mk_append_mk]; (with_reducible refine (WR.out _ (by assumption)).mono ?_); rintro e w4 ⟨rfl, hp4, hr3⟩))
        all_goals clear q1
        all_goals go_wp2_with fail
        all_goals go_meet
        all_goals exact hp4
      case rest =>
        have hPc := hcut
        clear b0 b1 b2 b3 hoB hPB P4 HQ5 HQ6
        go_wp2_with fail
        go_roundw
        case rel => exact ⟨q + 1, by omega, by go_num, by rw [HF.out]; exact hPc⟩
        case measure => simp [intOf]; omega
    · obtain rfl : q = add.length := by omega
      rw [List.take_length] at hP hsl
      have c4 : wo.cell? ⟨w.heap.size, 4, none⟩ = some (.slice da drop.length dcap) := by simp [World.cell?, BX.out _ hP.be]
      have hz1 : w.heap.size < wo.heap.size := by have := hP.be.size; omega
      have hwD : IntKind.u64.wrap (drop.length : Int) = (drop.length : Int) := Cd.wrapU_nat (by omega)
      have HT2 := Lib.hid (show ld = ((HD ++ add.flatMap putTab) ++ putD (drop.length : Int)) ++ drop.flatMap putD by rw [HDL.out]; rfl)
      generalize HD ++ add.flatMap putTab = S1 at *
      obtain ⟨S2, hS2⟩ : ∃ S2, S2 = S1 ++ putD (drop.length : Int) := ⟨_, rfl⟩
      have p5 : (putD (drop.length : Int)).length ≤ 10 := Cd.putU_len10 _ (by simp; omega)
      have hsl2 : S2.length ≤ 300010 := by rw [hS2, List.length_append]; omega
      have P5 := Lib.hid (put1n_any hbA hP (drop.length : Int) (by intro d hd; simp at hd; omega) (by omega))
      rw [← hS2] at P5 HT2
      have hud : u64s drop := fun d hd => by have := HOK.out.drops d hd; omega
      have p6 := putDs_len10 drop hud
      have P6 := Lib.hid (fun W (h : P1 bb bb wA S2 W) => show Calls Try.prog 47 #[.slice da drop.length dcap, .pointer (some ⟨bb, 0, none⟩)] W fun e w' => e = .returned (.tuple #[]) ∧ P1 bb bb wA ld w' from by
        have hr : RowN bb bb W (.slice da drop.length dcap) drop := ⟨da, dcap, gb, go', rfl, fun h0 => ⟨(hd h0).1, .inl (by have := (hd h0).2; omega)⟩, fun j hj => ((hWA.trans (h.be.mono (by omega))).cell (p := ⟨gb, go' + j, none⟩) (hd (by omega)).2).trans (HDC.out j hj)⟩
        refine (put1_any bb bb S2 _ drop W h.is hr (by have := h.be.size; have := HBA.out; omega) hud (by omega) (by omega)).mono fun e w' ⟨he, hp⟩ => ⟨he, ?_⟩
        rw [← HT2.out] at hp
        exact h.trans hp)
      have hll : ld.length ≤ 400000 := by rw [HT2.out, List.length_append]; omega
      have P7 := Lib.hid (fun W (h : P1 bb bb wA ld W) => show Calls Try.prog 50 #[.pointer (some ⟨bb, 0, none⟩)] W fun e w' => e = .returned (.string (Cd.bs ld)) ∧ P1 bb bb wA ld w' from
        (Sb.string_any bb bb ld W h.is (by have := h.be.size; have := HBA.out; omega)).mono fun e w' ⟨he, h1, h2, h3⟩ => ⟨he, h1, h.be.trans h2, h.re.trans h3⟩)
      clear hS2 p5 p6 hud
      go_wp2_with (first
        | (go_at_call 47; (with_reducible refine P5.out.mono ?_); rintro e w2 ⟨rfl, hP2⟩; have c5 := (show w2.cell? ⟨w.heap.size, 4, none⟩ = some (.slice da drop.length dcap) from by simp [World.cell?, BX.out _ hP2.be]); have hz2 := (show w.heap.size < w2.heap.size from Nat.lt_of_lt_of_le hal hP2.be.size))
        | (go_at_call 47; (with_reducible refine (P6.out _ hP2).mono ?_); rintro e w3 ⟨rfl, hP3⟩)
        | (go_at_call 50; (with_reducible refine (P7.out _ hP3).mono ?_); rintro e w4 ⟨rfl, hP4⟩))
      go_ret
      exact ⟨rfl, hWA.trans (hP4.be.mono (by omega))⟩

set_option maxRecDepth 100000 in
set_option maxHeartbeats 4000000 in
theorem encode_any (e : Ed) (av dv : Value) (w : World) (hE : EdIn w.heap.size w e av dv) :
    Calls Try.prog 9 #[edV e av dv] w fun r w' => r = .returned (.tuple #[.string (Cd.bs (encE e).1), .int .i64 ((encE e).2 : Nat)]) ∧ Below w.heap.size w w' := by
  have hgr : ∀ W, Below w.heap.size w W → EdIn W.heap.size W e av dv := fun W hb => ⟨hE.add.grow hb hb.size, hE.drop.grow hb hb.size, hE.each, hE.ds, hE.n0, hE.n1, hE.s0, hE.s1, hE.l0, hE.l1, hE.many, hE.few⟩
  have hW : Below w.heap.size w (w.alloc (.cells #[.int .u64 e.next, .int .u64 e.seq, .int .u64 e.log, av, dv] 26)) := (Below.refl _ _).alloc (Nat.le_refl _) _
  have hMay := editMayBe_any e av dv _ (hgr _ hW)
  have bx := Ob.Obj.new w 26 [.int .u64 e.next, .int .u64 e.seq, .int .u64 e.log, av, dv]
  obtain ⟨⟨aa, acap, _, _, rfl, _⟩, ⟨da, dcap, _, _, rfl, _⟩, _⟩ := hE
  cases hm : mayE e with
  | false =>
    have HE := Lib.hid (show encE e = ([], 1) by unfold encE; rw [hm]; rfl)
    rw [hm] at hMay
    have HM := Lib.hid hMay
    clear hMay hm hgr
    obtain ⟨next, seq, log, add, drop⟩ := e
    unfold edV
    simp only [edV] at *
    go_enter Try.func9, Try.ntmps9
    go_wp2_with (go_at_call 21; (with_reducible refine HM.out.mono ?_); rintro e w1 ⟨rfl, hb1⟩)
    go_ret2
    exact ⟨by rw [HE.out]; rfl, hW.trans (hb1.mono (by simp))⟩
  | true =>
    have HE := Lib.hid (show encE e = Fr.put 7 (loadE e) by unfold encE; rw [hm]; rfl)
    have hll := loadE_len (eok hm)
    rw [hm] at hMay
    have HM := Lib.hid hMay
    have HPE := Lib.hid (fun W (hb : Below w.heap.size w W) => putEdit_any e (.slice aa e.add.length acap) (.slice da e.drop.length dcap) W (hgr W hb) hm)
    have HPUT := Lib.hid (fun W => framePutc_any 7 7 rfl (loadE e) W (by omega))
    clear hMay hm hgr hll
    generalize loadE e = ld at *
    generalize Fr.put 7 ld = pr at *
    obtain ⟨pb, pe⟩ := pr
    obtain ⟨next, seq, log, add, drop⟩ := e
    unfold edV
    simp only [edV] at *
    go_enter Try.func9, Try.ntmps9
    go_wp2_with (first
      | (go_at_call 21; (with_reducible refine HM.out.mono ?_); rintro e w1 ⟨rfl, hb1⟩; have hB1 := hW.trans (hb1.mono (by simp)); have bx1 := bx.below hb1; have c0 := bx1.cell 0; have c1 := bx1.cell 1; have c2 := bx1.cell 2; have c3 := bx1.cell 3; have c4 := bx1.cell 4; have hz1 := bx1.lt; simp at c0 c1 c2 c3 c4)
      | (go_at_call 23; (with_reducible refine (HPE.out _ hB1).mono ?_); rintro e w2 ⟨rfl, hb2⟩; have hB2 := hB1.trans (hb2.mono hB1.size))
      | (go_at_call 22; (with_reducible refine (HPUT.out _).mono ?_); rintro e w3 ⟨rfl, hb3⟩))
    go_ret2
    exact ⟨by rw [HE.out]; rfl, hB2.trans (hb3.mono hB2.size)⟩
end Md10
end Go.Proofs.Yteckjhhbljoklaa

/-
  Edits that came in, opened.
-/
namespace Go.Proofs.Yteckjhhbljoklaa
open Go.RowKit
set_option linter.unusedVariables false
set_option linter.unusedSimpArgs false
namespace Mf
open Gn
theorem u64m {n : Int} (h : (Lit.int .u64 n).wf = true) : 0 ≤ n ∧ n ≤ 18446744073709551615 := by simpa [Lit.wf, IntKind.min, IntKind.max, IntKind.signed, IntKind.bits] using h
theorem i64m {n : Int} (h : (Lit.int .i64 n).wf = true) : -9223372036854775808 ≤ n ∧ n ≤ 9223372036854775807 := by simpa [Lit.wf, IntKind.min, IntKind.max, IntKind.signed, IntKind.bits] using h
theorem mem_sum10 {α : Type} (f : α → Nat) : ∀ (l : List α) (j : Nat) (h : j < l.length), f l[j] ≤ (l.map f).sum
  | x :: r, 0, _ => by simp
  | x :: r, j + 1, h => by
    have := mem_sum10 f r j (by simpa using h)
    simp; omega
theorem len_sum10 {α : Type} (f : α → Nat) (h1 : ∀ x, 1 ≤ f x) : ∀ l : List α, l.length ≤ (l.map f).sum
  | [] => by simp
  | x :: r => by
    have := len_sum10 f h1 r
    have := h1 x
    simp; omega
abbrev tabT : Ty := .struct (.cons (.int .u64) (.cons (.int .i64) (.cons (.int .i64) (.cons (.int .i64) (.cons .str (.cons .str .nil))))))
abbrev editT : Ty := .struct (.cons (.int .u64) (.cons (.int .u64) (.cons (.int .u64) (.cons (.slice tabT) (.cons (.slice (.int .u64)) .nil)))))
abbrev TD : Type := Int × Int × Int × Int × List UInt8 × List UInt8 × Unit
abbrev ED : Type := Int × Int × Int × List TD × List Int × Unit
def toT (x : TD) : Tbl := ⟨x.1, x.2.1, x.2.2.1, x.2.2.2.1, x.2.2.2.2.1, x.2.2.2.2.2.1⟩
def toE (x : ED) : Ed := ⟨x.1, x.2.1, x.2.2.1, x.2.2.2.1.map toT, x.2.2.2.2.1⟩
theorem rd_tab {B : Nat} {W : World} {cs : List Value} {x : TD} (h : RdC B W tabT cs x) : cs = tC (toT x) ∧ (0 ≤ x.1 ∧ x.1 ≤ 18446744073709551615) ∧ (-9223372036854775808 ≤ x.2.1 ∧ x.2.1 ≤ 9223372036854775807) ∧ (-9223372036854775808 ≤ x.2.2.1 ∧ x.2.2.1 ≤ 9223372036854775807) ∧ (-9223372036854775808 ≤ x.2.2.2.1 ∧ x.2.2.2.1 ≤ 9223372036854775807) := by
  obtain ⟨c1, d1, rfl, _, ⟨rfl, w1⟩, c2, d2, rfl, _, ⟨rfl, w2⟩, c3, d3, rfl, _, ⟨rfl, w3⟩, c4, d4, rfl, _, ⟨rfl, w4⟩, c5, d5, rfl, _, ⟨rfl, _⟩, c6, d6, rfl, _, ⟨rfl, _⟩, rfl⟩ := h
  exact ⟨rfl, u64m w1, i64m w2, i64m w3, i64m w4⟩
theorem rd_edit {B : Nat} {W : World} {cs : List Value} {x : ED} (h : RdC B W editT cs x) {b : Nat} (hb : editT.bulk x ≤ b) (hb2 : b ≤ 1048576) : ∃ av dv, cs = [.int .u64 x.1, .int .u64 x.2.1, .int .u64 x.2.2.1, av, dv] ∧ EdIn B W (toE x) av dv := by
  obtain ⟨next, seq, log, add, drop, uu⟩ := x
  obtain ⟨c1, d1, rfl, _, ⟨rfl, w1⟩, c2, d2, rfl, _, ⟨rfl, w2⟩, c3, d3, rfl, _, ⟨rfl, w3⟩, c4, d4, rfl, _, h4, c5, d5, rfl, _, h5, rfl⟩ := h
  obtain ⟨a, cap, tb, off, h1, _, _, h2, h3⟩ := h4
  obtain ⟨a', cap', tb', off', h1', _, _, h2', h3'⟩ := h5
  change List TD at add
  change List Int at drop
  replace hb : 1 + (1 + (1 + (((add.map fun x : TD => 1 + (1 + (1 + (1 + (x.2.2.2.2.1.length + 1 + (x.2.2.2.2.2.1.length + 1 + 0))))) + 1).sum + 1) + (((drop.map fun _ => 1).sum + 1) + 0)))) + 1 ≤ b := hb
  have hl1 := len_sum10 (fun x : TD => 1 + (1 + (1 + (1 + (x.2.2.2.2.1.length + 1 + (x.2.2.2.2.2.1.length + 1 + 0))))) + 1) (fun x => by omega) add
  have hl2 := len_sum10 (fun _ : Int => 1) (fun _ => Nat.le_refl _) drop
  obtain ⟨q1, q2⟩ := u64m w1
  obtain ⟨q3, q4⟩ := u64m w2
  obtain ⟨q5, q6⟩ := u64m w3
  subst h1
  subst h1'
  simp only at h2 h3 h2' h3' q1 q2 q3 q4 q5 q6
  refine ⟨_, _, rfl, ⟨a, cap, tb, off, by rw [show (toE (next, seq, log, add, drop, uu)).add = add.map toT from rfl, List.length_map]; rfl, fun h0 => h2 (by rw [show (toE (next, seq, log, add, drop, uu)).add = add.map toT from rfl, List.length_map] at h0; exact h0), fun j hj => ?_⟩, ⟨a', cap', tb', off', rfl, h2', fun j hj => ?_⟩, ?_, ?_, q1, q2, q3, q4, q5, q6, ?_, ?_⟩
  · have hj' : j < add.length := by rw [show (toE (next, seq, log, add, drop, uu)).add = add.map toT from rfl, List.length_map] at hj; exact hj
    obtain ⟨cs', g1, g2, g3⟩ := h3 j hj'
    obtain ⟨rfl, _⟩ := rd_tab g3
    have e2 : (toE (next, seq, log, add, drop, uu)).add[j] = toT add[j] := by simp [toE]
    rw [e2]
    exact ⟨g2 0 (by decide), g2 1 (by decide), g2 2 (by decide), g2 3 (by decide), g2 4 (by decide), g2 5 (by decide)⟩
  · obtain ⟨cs', g1, g2, g3⟩ := h3' j hj
    obtain ⟨rfl, _⟩ := g3
    have := g2 0 (by decide)
    rw [show (Ty.int IntKind.u64).size = 1 from rfl, Nat.mul_one, Nat.add_zero] at this
    exact this
  · intro x hx
    obtain ⟨y, hy, rfl⟩ := List.mem_map.1 hx
    obtain ⟨j, hj, rfl⟩ := List.getElem_of_mem hy
    obtain ⟨cs', g1, g2, g3⟩ := h3 j hj
    obtain ⟨_, ⟨r1, r2⟩, ⟨r3, r4⟩, ⟨r5, r6⟩, r7, r8⟩ := rd_tab g3
    have hm := mem_sum10 (fun x : TD => 1 + (1 + (1 + (1 + (x.2.2.2.2.1.length + 1 + (x.2.2.2.2.2.1.length + 1 + 0))))) + 1) add j hj
    exact ⟨r1, r2, r3, r4, r5, r6, r7, r8, by show add[j].2.2.2.2.1.length ≤ _; omega, by show add[j].2.2.2.2.2.1.length ≤ _; omega⟩
  · intro d hd
    obtain ⟨j, hj, rfl⟩ := List.getElem_of_mem hd
    obtain ⟨cs', g1, g2, g3⟩ := h3' j hj
    exact u64m g3.2
  · rw [show (toE (next, seq, log, add, drop, uu)).add = add.map toT from rfl, List.length_map]; omega
  · show drop.length ≤ _; omega

variable {H : Type} {enc : TypeId × Value → H} {W : World}
set_option maxRecDepth 100000 in
theorem open_ed {B : Nat} {v : Value} {d : DataW H} {p : List MemPlace} {base : Nat} (hv : Value.okWide Try.prog W .any base 26 v)
    (h : DataW.Trod enc Try.prog W 0 (fun _ => true) true 26 v d p) (hlt : ∀ x ∈ p, x.block < W.heap.size) (hB : Rows.uptoBulk d ≤ B) (hB2 : B ≤ 1048576 := by omega) :
    ∃ (e : Ed) (av dv : Value), v = edV e av dv ∧ EdIn W.heap.size W e av dv := by
  obtain ⟨cs, x, rfl, hx, hb⟩ := open_val editT (by kernel_rfl) hv h hB
  obtain ⟨av, dv, rfl, hE⟩ := rd_edit (x := x) hx hb hB2
  exact ⟨toE x, av, dv, rfl, hE⟩
end Mf
end Go.Proofs.Yteckjhhbljoklaa

/-
  The dump is laid out.
-/
namespace Go.Proofs.Yteckjhhbljoklaa
theorem laidOut : laidOutB Try.prog = true := by kernel_rfl
end Go.Proofs.Yteckjhhbljoklaa

/-
  Chapter 10: the law ManifestEncodes over the landed manifest.
-/
namespace Go.Proofs.Yteckjhhbljoklaa
open Go.RowKit
set_option linter.unusedVariables false
namespace Mf
theorem encOk10 : EncOk10 := Md10.encode_any
theorem manifestEncodes_law (e : Ed) (av dv : Value) (w : World) (hE : EdIn w.heap.size w e av dv) :
    Calls Try.prog 3 #[edV e av dv] w fun r w' => r = .returned (.bool true) ∧ Below w.heap.size w w' :=
  manifestEncodes_walk encOk10 e av dv w hE
end Mf
end Go.Proofs.Yteckjhhbljoklaa

/-
  Plain mathematics of chapter 4 (files): runs, told again as the blocks that they are of.
-/
namespace Go.Proofs.Yteckjhhbljoklaa
namespace Fi

/-- the blocks of a run -/
def runOf (p : Int × Nat) : List Int := (List.range p.2).map fun (j : Nat) => p.1 + (j : Int)
theorem runOf_succ (x : Int) (k : Nat) : runOf (x, k + 1) = x :: runOf (x + 1, k) := by
  unfold runOf
  rw [List.range_succ_eq_map, List.map_cons, List.map_map]
  congr 1
  · simp
  · apply List.map_congr_left; intro j _; simp; omega
theorem runLen_take (l : List Int) : ∀ x, l.take (runLen x l) = runOf (x + 1, runLen x l) := by
  induction l with
  | nil => intro x; simp [runLen, runOf]
  | cons y r ih =>
    intro x
    unfold runLen
    split
    · rename_i h
      rw [List.take_succ_cons, ih y, runOf_succ, h]
    · simp [runOf]
theorem runs_expand (l : List Int) : (runs l).flatMap runOf = l := by
  induction h : l.length using Nat.strongRecOn generalizing l with
  | _ n ih =>
    match l, h with
    | [], _ => rw [runs]; rfl
    | x :: r, h =>
      rw [runs_cons, List.flatMap_cons, runOf_succ, ih (r.drop (runLen x r)).length (by simp at h ⊢; omega) _ rfl, ← runLen_take, List.cons_append, List.take_append_drop]
theorem blocksGo_in {n : Int} : ∀ {l t t' : List Int}, blocksGo n l t = some t' → ∀ b ∈ l, 32 ≤ b ∧ b < n
  | [], _, _, _ => fun b hb => by cases hb
  | x :: l, t, t', h => by
    unfold blocksGo at h
    split at h
    · rename_i hx
      intro b hb
      rcases List.mem_cons.1 hb with rfl | hb
      · exact ⟨hx.1, hx.2.1⟩
      · exact blocksGo_in h b hb
    · cases h
theorem mayGo_in {n : Int} : ∀ {L : List File} {p : Option Dat} {t : List Int}, mayGo n L p t = true → ∀ f ∈ L, (∀ b ∈ f.blocks, 32 ≤ b ∧ b < n) ∧ 0 ≤ f.size ∧ f.name.length ≤ 32
  | [], _, _, _ => fun f hf => by cases hf
  | x :: L, p, t, h => by
    unfold mayGo at h
    rw [Bool.and_eq_true] at h
    obtain ⟨hh, hr⟩ := h
    cases hb : blocksGo n x.blocks t with
    | none => rw [hb] at hr; cases hr
    | some t' =>
      rw [hb] at hr
      intro f hf
      rcases List.mem_cons.1 hf with rfl | hf
      · refine ⟨blocksGo_in hb, ?_, ?_⟩
        · unfold headB at hh; simp at hh; omega
        · unfold headB nameB at hh; simp at hh; omega
      · exact mayGo_in hr f hf
theorem may_in {r : Root} {n : Int} (h : may r n = true) : 1 ≤ r.gen ∧ r.gen ≤ 4611686018427387904 ∧ r.files.length ≤ 64 ∧ ∀ f ∈ r.files, (∀ b ∈ f.blocks, 32 ≤ b ∧ b < n) ∧ 0 ≤ f.size ∧ f.name.length ≤ 32 := by
  unfold may at h
  simp only [Bool.and_eq_true, decide_eq_true_eq] at h
  exact ⟨h.1.1.1, h.1.1.2, h.1.2, mayGo_in h.2⟩

theorem nodup_len : ∀ (N : Nat) (l : List Nat), l.Nodup → (∀ b ∈ l, b < N) → l.length ≤ N
  | 0, [], _, _ => Nat.le_refl _
  | 0, b :: _, _, h => by have := h b (List.mem_cons_self ..); omega
  | N + 1, l, hn, h => by
    by_cases hm : N ∈ l
    · have := nodup_len N (l.erase N) (hn.erase N) (fun b hb => by
        have h1 := (hn.mem_erase_iff).1 hb
        have := h b h1.2
        have := h1.1
        omega)
      rw [List.length_erase_of_mem hm] at this
      omega
    · have := nodup_len N l hn (fun b hb => by
        have := h b hb
        have : b ≠ N := fun e => hm (e ▸ hb)
        omega)
      omega
theorem blocksGo_nodup {n : Int} : ∀ {l t t' : List Int}, blocksGo n l t = some t' → t.Nodup → (∀ b ∈ t, 32 ≤ b ∧ b < n) → t'.Nodup ∧ t'.length = t.length + l.length ∧ ∀ b ∈ t', 32 ≤ b ∧ b < n
  | [], t, t', h, hn, hb => by
    simp only [blocksGo, Option.some.injEq] at h
    subst h
    exact ⟨hn, rfl, hb⟩
  | x :: l, t, t', h, hn, hb => by
    unfold blocksGo at h
    split at h
    · rename_i hx
      obtain ⟨h1, h2, h3⟩ := blocksGo_nodup h (List.nodup_cons.2 ⟨hx.2.2, hn⟩) (fun b hb' => by
        rcases List.mem_cons.1 hb' with rfl | hb'
        · exact ⟨hx.1, hx.2.1⟩
        · exact hb b hb')
      exact ⟨h1, by rw [h2, List.length_cons, List.length_cons]; omega, h3⟩
    · cases h
theorem ints_len {n : Int} (hn : n ≤ 16384) (t : List Int) (hd : t.Nodup) (hb : ∀ b ∈ t, 32 ≤ b ∧ b < n) : t.length ≤ 16384 := by
  have h1 : (t.map Int.toNat).Nodup := by
    induction t with
    | nil => simp
    | cons x r ih =>
      have hx := List.nodup_cons.1 hd
      rw [List.map_cons, List.nodup_cons]
      refine ⟨fun hm => ?_, ih hx.2 (fun b h => hb b (List.mem_cons_of_mem _ h))⟩
      obtain ⟨y, hy, e⟩ := List.mem_map.1 hm
      have a1 := hb x (List.mem_cons_self ..)
      have a2 := hb y (List.mem_cons_of_mem _ hy)
      have : y = x := by omega
      exact hx.1 (this ▸ hy)
  have := nodup_len 16384 _ h1 (fun b h => by
    obtain ⟨y, hy, rfl⟩ := List.mem_map.1 h
    have := hb y hy
    omega)
  simpa using this
theorem mayGo_len {n : Int} (hn : n ≤ 16384) : ∀ {L : List File} {p : Option Dat} {t : List Int}, mayGo n L p t = true → t.Nodup → (∀ b ∈ t, 32 ≤ b ∧ b < n) → ∀ f ∈ L, f.blocks.length ≤ 16384 ∧ (f.blocks.length : Int) = takes f.size
  | [], _, _, _, _, _ => fun f hf => by cases hf
  | x :: L, p, t, h, hd, hb => by
    unfold mayGo at h
    rw [Bool.and_eq_true] at h
    obtain ⟨hh, hr⟩ := h
    cases hbg : blocksGo n x.blocks t with
    | none => rw [hbg] at hr; cases hr
    | some t' =>
      rw [hbg] at hr
      obtain ⟨h1, h2, h3⟩ := blocksGo_nodup hbg hd hb
      intro f hf
      rcases List.mem_cons.1 hf with rfl | hf
      · have := ints_len hn t' h1 h3
        unfold headB at hh
        simp at hh
        exact ⟨by omega, hh.2⟩
      · exact mayGo_len hn hr h1 h3 f hf
end Fi
end Go.Proofs.Yteckjhhbljoklaa

/-
  Plain mathematics of chapter 3 (block): a disk as a state, and what each call makes of it.
-/
namespace Go.Proofs.Yteckjhhbljoklaa
namespace Bl
open Go.RowKit

abbrev Dat := List UInt8
structure St where
  safe : List Dat
  wait : List (Nat × Dat)
  down : Bool
  armed : Nat
  acts : Nat
  epochs : Nat

def noughts : Dat := List.replicate 256 0
def new (n : Nat) : St := ⟨List.replicate n noughts, [], false, 0, 0, 0⟩
/-- the last pending write of a block -/
def lastW (wait : List (Nat × Dat)) (k : Nat) : Option Dat := (wait.reverse.find? fun x => x.1 == k).map (·.2)
def readOf (σ : St) (k : Nat) : Dat := (lastW σ.wait k).getD (σ.safe.getD k [])
def inR (σ : St) (i : Int) : Prop := 0 ≤ i ∧ i < σ.safe.length
instance (σ : St) (i : Int) : Decidable (inR σ i) := by unfold inR; infer_instance
def read (σ : St) (i : Int) : Dat × Nat := if σ.down then ([], 4) else if inR σ i then (readOf σ i.toNat, 0) else ([], 1)
/-- the power of an act: the state behind it, and whether it goes -/
def act (σ : St) : St × Bool :=
  if σ.armed = 0 then ({ σ with acts := σ.acts + 1 }, false)
  else if σ.armed = 1 then ({ σ with acts := σ.acts + 1, armed := 0, down := true }, true)
  else ({ σ with acts := σ.acts + 1, armed := σ.armed - 1 }, false)
def write (σ : St) (i : Int) (s : Dat) : St × Nat :=
  if σ.down then (σ, 4) else if inR σ i ∧ s.length = 256 then
    ((act { σ with wait := σ.wait ++ [(i.toNat, s)] }).1, if (act σ).2 then 4 else 0)
  else (σ, 1)
def setAll (safe : List Dat) (wait : List (Nat × Dat)) : List Dat := wait.foldl (fun l x => l.set x.1 x.2) safe
def sync (σ : St) : St × Nat :=
  if σ.down then (σ, 4) else if (act σ).2 then ((act σ).1, 4)
  else ({ (act σ).1 with safe := setAll σ.safe σ.wait, wait := [] }, 0)
def arm (σ : St) (n : Int) : St := { σ with armed := n.toNat }
def clip (n : Int) : Nat := min n.toNat 256
/-- a pending write at a loss of power -/
def keepOne (keep : List Bool) (torn : Int) (n : Nat) (l : List Dat) (k : Nat) (x : Nat × Dat) : List Dat :=
  if (k : Int) = torn then l.set x.1 (x.2.take n ++ (l.getD x.1 []).drop n)
  else if keep.getD k false then l.set x.1 x.2 else l
def keepGo (keep : List Bool) (torn : Int) (n : Nat) : Nat → List (Nat × Dat) → List Dat → List Dat
  | _, [], l => l
  | k, x :: r, l => keepGo keep torn n (k + 1) r (keepOne keep torn n l k x)
def crash (σ : St) (keep : List Bool) (torn bytes : Int) : St :=
  { σ with safe := keepGo keep torn (clip bytes) 0 σ.wait σ.safe, wait := [], down := false, armed := 0, epochs := σ.epochs + 1 }
/-- what every state keeps -/
structure Ok (σ : St) : Prop where
  blocks : σ.safe.length ≤ 16384
  full : ∀ x ∈ σ.safe, x.length = 256
  inW : ∀ x ∈ σ.wait, x.1 < σ.safe.length ∧ x.2.length = 256
  armed : σ.armed ≤ 9223372036854775807

theorem act_safe (σ : St) : (act σ).1.safe = σ.safe ∧ (act σ).1.wait = σ.wait ∧ (act σ).1.acts = σ.acts + 1 ∧ (act σ).1.epochs = σ.epochs ∧ (act σ).1.armed ≤ σ.armed := by
  unfold act; split
  · exact ⟨rfl, rfl, rfl, rfl, Nat.le_refl _⟩
  · split
    · exact ⟨rfl, rfl, rfl, rfl, Nat.zero_le _⟩
    · exact ⟨rfl, rfl, rfl, rfl, Nat.sub_le _ _⟩
theorem Ok.act {σ : St} (h : Ok σ) : Ok (act σ).1 := by
  obtain ⟨e1, e2, _, _, e5⟩ := act_safe σ
  exact ⟨by rw [e1]; exact h.blocks, by rw [e1]; exact h.full, by rw [e1, e2]; exact h.inW, Nat.le_trans e5 h.armed⟩
theorem new_ok {n : Nat} (h : n ≤ 16384) : Ok (new n) := ⟨by simpa [new] using h, fun x hx => by have := List.eq_of_mem_replicate hx; rw [this]; exact List.length_replicate, fun x hx => by simp [new] at hx, by simp [new]⟩
theorem Ok.write {σ : St} (h : Ok σ) (i : Int) (s : Dat) : Ok (write σ i s).1 := by
  unfold Bl.write
  split
  · exact h
  · split
    · rename_i h2
      obtain ⟨⟨h0, h1⟩, hs⟩ := h2
      refine Ok.act ⟨h.blocks, h.full, fun x hx => ?_, h.armed⟩
      rcases List.mem_append.1 hx with hx | hx
      · exact h.inW x hx
      · simp at hx; subst hx; exact ⟨by simp only; omega, hs⟩
    · exact h
theorem setAll_len (wait : List (Nat × Dat)) : ∀ safe : List Dat, (setAll safe wait).length = safe.length := by
  induction wait with
  | nil => intro safe; rfl
  | cons x r ih => intro safe; show (setAll (safe.set x.1 x.2) r).length = _; rw [ih]; simp
theorem setAll_full (wait : List (Nat × Dat)) : ∀ safe : List Dat, (∀ x ∈ safe, x.length = 256) → (∀ x ∈ wait, x.2.length = 256) → ∀ x ∈ setAll safe wait, x.length = 256 := by
  induction wait with
  | nil => intro safe h _; exact h
  | cons y r ih =>
    intro safe h hw
    refine ih (safe.set y.1 y.2) (fun x hx => ?_) (fun x hx => hw x (List.mem_cons_of_mem _ hx))
    rcases List.mem_or_eq_of_mem_set hx with hx | hx
    · exact h x hx
    · rw [hx]; exact hw y (List.mem_cons_self ..)
theorem Ok.sync {σ : St} (h : Ok σ) : Ok (sync σ).1 := by
  unfold Bl.sync
  split
  · exact h
  · split
    · exact h.act
    · exact ⟨by simp only [setAll_len]; exact h.blocks, setAll_full _ _ h.full (fun x hx => (h.inW x hx).2), fun x hx => by simp at hx, h.act.armed⟩
theorem Ok.arm {σ : St} (h : Ok σ) {n : Int} (hn : n ≤ 9223372036854775807) : Ok (arm σ n) := ⟨h.blocks, h.full, h.inW, by simp only [Bl.arm]; omega⟩
theorem keepOne_len (keep : List Bool) (torn : Int) (n : Nat) (l : List Dat) (k : Nat) (x : Nat × Dat) : (keepOne keep torn n l k x).length = l.length := by
  unfold keepOne; split
  · simp
  · split <;> simp
theorem getD_len {l : List Dat} (h : ∀ x ∈ l, x.length = 256) {i : Nat} (hi : i < l.length) : (l.getD i []).length = 256 := by
  rw [List.getD_eq_getElem?_getD, List.getElem?_eq_getElem hi]; exact h _ (List.getElem_mem hi)
theorem keepOne_full {keep : List Bool} {torn : Int} {n : Nat} {l : List Dat} {k : Nat} {x : Nat × Dat} (h : ∀ x ∈ l, x.length = 256) (hx : x.1 < l.length ∧ x.2.length = 256) (hn : n ≤ 256) : ∀ y ∈ keepOne keep torn n l k x, y.length = 256 := by
  unfold keepOne; split
  · intro y hy
    rcases List.mem_or_eq_of_mem_set hy with hy | hy
    · exact h y hy
    · have := getD_len h hx.1
      rw [hy, List.length_append, List.length_take, List.length_drop]; omega
  · split
    · intro y hy
      rcases List.mem_or_eq_of_mem_set hy with hy | hy
      · exact h y hy
      · rw [hy]; exact hx.2
    · exact h
theorem keepGo_ok {keep : List Bool} {torn : Int} {n : Nat} (hn : n ≤ 256) : ∀ (wait : List (Nat × Dat)) (k : Nat) (l : List Dat), (∀ x ∈ l, x.length = 256) → (∀ x ∈ wait, x.1 < l.length ∧ x.2.length = 256) →
    (keepGo keep torn n k wait l).length = l.length ∧ ∀ x ∈ keepGo keep torn n k wait l, x.length = 256
  | [], _, l, h, _ => ⟨rfl, h⟩
  | x :: r, k, l, h, hw => by
    have hl := keepOne_len keep torn n l k x
    have := keepGo_ok (keep := keep) (torn := torn) hn r (k + 1) (keepOne keep torn n l k x) (keepOne_full h (hw x (List.mem_cons_self ..)) hn) (fun y hy => by rw [hl]; exact hw y (List.mem_cons_of_mem _ hy))
    exact ⟨this.1.trans hl, this.2⟩
theorem clip_le (n : Int) : clip n ≤ 256 := Nat.min_le_right _ _
theorem Ok.crash {σ : St} (h : Ok σ) (keep : List Bool) (torn bytes : Int) : Ok (crash σ keep torn bytes) := by
  have := keepGo_ok (keep := keep) (torn := torn) (clip_le bytes) σ.wait 0 σ.safe h.full h.inW
  exact ⟨by simp only [Bl.crash, this.1]; exact h.blocks, this.2, fun x hx => by simp [Bl.crash] at hx, by simp [Bl.crash]⟩
end Bl
end Go.Proofs.Yteckjhhbljoklaa

/-
  Plain mathematics of chapter 4 (files): a file system over a disk as a state, and what each call makes of it. No program is named here.
-/
namespace Go.Proofs.Yteckjhhbljoklaa
namespace Fi
open Op (bytesLess)

/-- the root with whose bytes a text begins -/
def IsRoot (l : Dat) (n : Int) (r : Root) : Prop := (encode r n).2 = 0 ∧ (encode r n).1 <+: l
open Classical in
noncomputable def decode (l : Dat) (n : Int) : Option Root := if h : ∃ r, IsRoot l n r then some h.choose else none

/-- a file at hand: its bytes; how many of them are old, and in which blocks these lie -/
structure HF where
  name : Dat
  data : Dat
  old : Nat
  blocks : List Int
structure FS where
  epoch : Nat
  safe : Root
  hand : List HF
  changed : Bool

def dead (σ : Bl.St) (φ : FS) : Bool := σ.down || (σ.epochs != φ.epoch)
def head (g : Nat) : Dat := Cd.big g ++ List.replicate 240 0 ++ Cd.big g
def blk (σ : Bl.St) (b : Int) : Dat := (Bl.read σ b).1
def load (σ : Bl.St) (f : File) : Dat := (f.blocks.flatMap (blk σ)).take f.size.toNat
def handOf (σ : Bl.St) (f : File) : HF := ⟨f.name, load σ f, f.size.toNat, f.blocks⟩
/-- P4.5 -/
def revert (σ : Bl.St) (φ : FS) : FS := if dead σ φ then φ else { φ with hand := φ.safe.files.map (handOf σ), changed := false }

/-- bytes as blocks, the last one with noughts behind -/
def chunks : Dat → List Dat
  | [] => []
  | x :: r => ((x :: r).take 256 ++ List.replicate (256 - ((x :: r).take 256).length) 0) :: chunks ((x :: r).drop 256)
termination_by l => l.length
decreasing_by simp; omega
/-- writes, one by one, up to the first one that is refused -/
def writes : Bl.St → List (Int × Dat) → Bl.St × Nat
  | σ, [] => (σ, 0)
  | σ, x :: r => if (Bl.write σ x.1 x.2).2 = 0 then writes (Bl.write σ x.1 x.2).1 r else ((Bl.write σ x.1 x.2).1, (Bl.write σ x.1 x.2).2)
def rootAt (r : Root) : Int := 16 * ((r.gen % 2 : Nat) : Int)
/-- where a root's bytes are written -/
def bodyW (r : Root) (s : Dat) : List (Int × Dat) := (chunks s).zipIdx.map fun p => (rootAt r + 1 + (p.2 : Int), p.1)
/-- P4.7, 2. and 3. -/
def put (σ : Bl.St) (ws : List (Int × Dat)) (r : Root) : Bl.St × Nat :=
  if (encode r σ.safe.length).2 ≠ 0 then (σ, 5) else
  let a := writes σ (ws ++ bodyW r (encode r σ.safe.length).1)
  if a.2 ≠ 0 then a else
  let b := Bl.sync a.1
  if b.2 ≠ 0 then b else
  let c := Bl.write b.1 (rootAt r) (head r.gen)
  if c.2 ≠ 0 then c else Bl.sync c.1

/-- a slot's root -/
noncomputable def slotRoot (σ : Bl.St) (k : Nat) : Option Root :=
  (decode ((List.range 15).flatMap fun (i : Nat) => blk σ (16 * (k : Int) + 1 + (i : Int))) σ.safe.length).filter fun r => decide (r.gen % 2 = k) && decide (blk σ (16 * (k : Int)) = head r.gen)
noncomputable def safeRoot (σ : Bl.St) : Option Root :=
  match slotRoot σ 0, slotRoot σ 1 with
  | some a, some b => some (if a.gen < b.gen then b else a)
  | some a, none => some a
  | none, b => b
/-- P4.2 -/
noncomputable def «open» (σ : Bl.St) : Bl.St × Option FS × Nat :=
  if σ.down then (σ, none, 4) else
  match safeRoot σ with
  | some r => (σ, some (revert σ ⟨σ.epochs, r, [], false⟩), 0)
  | none => if (put σ [] ⟨1, []⟩).2 ≠ 0 then ((put σ [] ⟨1, []⟩).1, none, (put σ [] ⟨1, []⟩).2) else ((put σ [] ⟨1, []⟩).1, some (revert (put σ [] ⟨1, []⟩).1 ⟨σ.epochs, ⟨1, []⟩, [], false⟩), 0)

def find (φ : FS) (name : Dat) : Option HF := φ.hand.find? fun f => f.name == name
def names (σ : Bl.St) (φ : FS) : List Dat := if dead σ φ then [] else φ.hand.map (·.name)
def size (σ : Bl.St) (φ : FS) (name : Dat) : Nat × Nat := if dead σ φ then (0, 4) else match find φ name with | none => (0, 6) | some f => (f.data.length, 0)
def read (σ : Bl.St) (φ : FS) (name : Dat) (i n : Int) : Dat × Nat :=
  if dead σ φ then ([], 4) else if i < 0 ∨ n < 0 then ([], 1) else match find φ name with | none => ([], 6) | some f => ((f.data.drop i.toNat).take n.toNat, 0)
/-- a file more, where its name stands -/
def insert (l : List HF) (x : HF) : List HF := l.takeWhile (fun f => bytesLess f.name x.name) ++ x :: l.dropWhile (fun f => bytesLess f.name x.name)
def drop (l : List HF) (name : Dat) : List HF := l.filter fun f => f.name != name
def create (σ : Bl.St) (φ : FS) (name : Dat) : FS × Nat :=
  if dead σ φ then (φ, 4) else if nameB name = false then (φ, 1) else match find φ name with
  | some _ => (φ, 7)
  | none => if 64 ≤ φ.hand.length then (φ, 5) else ({ φ with hand := insert φ.hand ⟨name, [], 0, []⟩, changed := true }, 0)
def append (σ : Bl.St) (φ : FS) (name s : Dat) : FS × Nat :=
  if dead σ φ then (φ, 4) else match find φ name with
  | none => (φ, 6)
  | some _ => ({ φ with hand := φ.hand.map fun f => if f.name == name then { f with data := f.data ++ s } else f, changed := φ.changed || !s.isEmpty }, 0)
def delete (σ : Bl.St) (φ : FS) (name : Dat) : FS × Nat :=
  if dead σ φ then (φ, 4) else match find φ name with | none => (φ, 6) | some _ => ({ φ with hand := drop φ.hand name, changed := true }, 0)
def rename (σ : Bl.St) (φ : FS) (a b : Dat) : FS × Nat :=
  if dead σ φ then (φ, 4) else if nameB b = false then (φ, 1) else match find φ a with
  | none => (φ, 6)
  | some f => if a = b then (φ, 0) else ({ φ with hand := insert (drop (drop φ.hand a) b) { f with name := b }, changed := true }, 0)
/-- the blocks that a commit may take, rising -/
def freeL (σ : Bl.St) (φ : FS) : List Int := ((List.range σ.safe.length).map fun (i : Nat) => (i : Int)).filter fun b => decide (32 ≤ b) && !(φ.safe.files.any fun f => f.blocks.contains b)
def free (σ : Bl.St) (φ : FS) : Nat := if dead σ φ then 0 else (freeL σ φ).length
/-- a commit's plan: the files, one by one, take of the free blocks -/
def plan : List HF → List Int → Option (List File × List (Int × Dat))
  | [], _ => some ([], [])
  | f :: r, fr =>
    if f.data.length ≤ f.old then (plan r fr).map fun x => (⟨f.name, (f.data.length : Int), f.blocks⟩ :: x.1, x.2) else
    let new := chunks (f.data.drop (f.old / 256 * 256))
    if fr.length < new.length then none else
    (plan r (fr.drop new.length)).map fun x => (⟨f.name, (f.data.length : Int), f.blocks.take (f.old / 256) ++ fr.take new.length⟩ :: x.1, (fr.take new.length).zip new ++ x.2)
/-- P4.7 -/
def commit (σ : Bl.St) (φ : FS) : Bl.St × FS × Nat :=
  if dead σ φ then (σ, φ, 4) else if φ.changed = false then (σ, φ, 0) else
  match plan φ.hand (freeL σ φ) with
  | none => (σ, φ, 5)
  | some p =>
    if (encode ⟨φ.safe.gen + 1, p.1⟩ σ.safe.length).2 ≠ 0 then (σ, φ, 5) else
    if (put σ p.2 ⟨φ.safe.gen + 1, p.1⟩).2 ≠ 0 then ((put σ p.2 ⟨φ.safe.gen + 1, p.1⟩).1, φ, (put σ p.2 ⟨φ.safe.gen + 1, p.1⟩).2)
    else ((put σ p.2 ⟨φ.safe.gen + 1, p.1⟩).1, revert (put σ p.2 ⟨φ.safe.gen + 1, p.1⟩).1 { φ with safe := ⟨φ.safe.gen + 1, p.1⟩ }, 0)
def root (σ : Bl.St) (φ : FS) : Root := if dead σ φ then ⟨0, []⟩ else φ.safe

/-! ### P4.10: what is pending behind a commit is of blocks that it may take, or of the other slot -/
theorem act_wait' (σ : Bl.St) : (Bl.act σ).1.wait = σ.wait := (Bl.act_safe σ).2.1
theorem write_wait (σ : Bl.St) (i : Int) (s : Dat) : ∀ x ∈ (Bl.write σ i s).1.wait, x ∈ σ.wait ∨ ((x.1 : Int) = i) := by
  intro x hx
  unfold Bl.write at hx
  split at hx
  · exact .inl hx
  · split at hx
    · rename_i h
      rw [act_wait'] at hx
      rcases List.mem_append.1 hx with h1 | h1
      · exact .inl h1
      · simp at h1; subst h1; exact .inr (by have := h.1.1; simp; omega)
    · exact .inl hx
theorem writes_wait : ∀ (ws : List (Int × Dat)) (σ : Bl.St), ∀ x ∈ (writes σ ws).1.wait, x ∈ σ.wait ∨ ∃ y ∈ ws, (x.1 : Int) = y.1
  | [], σ => fun x hx => .inl hx
  | y :: r, σ => fun x hx => by
    unfold writes at hx
    split at hx
    · rcases writes_wait r _ x hx with h | ⟨z, hz, e⟩
      · rcases write_wait σ y.1 y.2 x h with h | h
        · exact .inl h
        · exact .inr ⟨y, List.mem_cons_self .., h⟩
      · exact .inr ⟨z, List.mem_cons_of_mem _ hz, e⟩
    · rcases write_wait σ y.1 y.2 x hx with h | h
      · exact .inl h
      · exact .inr ⟨y, List.mem_cons_self .., h⟩
theorem sync_wait (σ : Bl.St) : ∀ x ∈ (Bl.sync σ).1.wait, x ∈ σ.wait := by
  intro x hx
  unfold Bl.sync at hx
  split at hx
  · exact hx
  · split at hx
    · rw [act_wait'] at hx; exact hx
    · cases hx
theorem put_wait (σ : Bl.St) (ws : List (Int × Dat)) (r : Root) : ∀ x ∈ (put σ ws r).1.wait, x ∈ σ.wait ∨ (∃ y ∈ ws, (x.1 : Int) = y.1) ∨ (∃ y ∈ bodyW r (encode r σ.safe.length).1, (x.1 : Int) = y.1) ∨ (x.1 : Int) = rootAt r := by
  intro x hx
  have step : ∀ x ∈ (writes σ (ws ++ bodyW r (encode r σ.safe.length).1)).1.wait, x ∈ σ.wait ∨ (∃ y ∈ ws, (x.1 : Int) = y.1) ∨ (∃ y ∈ bodyW r (encode r σ.safe.length).1, (x.1 : Int) = y.1) ∨ (x.1 : Int) = rootAt r := fun x h => by
    rcases writes_wait _ _ x h with h | ⟨y, hy, e⟩
    · exact .inl h
    · rcases List.mem_append.1 hy with hy | hy
      · exact .inr (.inl ⟨y, hy, e⟩)
      · exact .inr (.inr (.inl ⟨y, hy, e⟩))
  unfold put at hx
  split at hx
  · exact .inl hx
  · simp only at hx
    split at hx
    · exact step x hx
    · split at hx
      · exact step x (sync_wait _ x hx)
      · split at hx
        · rcases write_wait _ _ _ x hx with h | h
          · exact step x (sync_wait _ x h)
          · exact .inr (.inr (.inr h))
        · rcases write_wait _ _ _ x (sync_wait _ x hx) with h | h
          · exact step x (sync_wait _ x h)
          · exact .inr (.inr (.inr h))
theorem plan_free : ∀ (l : List HF) (fr : List Int) (p : List File × List (Int × Dat)), plan l fr = some p → ∀ y ∈ p.2, y.1 ∈ fr
  | [], fr, p, h => by simp only [plan, Option.some.injEq] at h; subst h; exact fun y hy => by cases hy
  | f :: r, fr, p, h => by
    unfold plan at h
    split at h
    · obtain ⟨x, hx, rfl⟩ := Option.map_eq_some_iff.1 h
      exact plan_free r fr x hx
    · simp only at h
      split at h
      · cases h
      · obtain ⟨x, hx, rfl⟩ := Option.map_eq_some_iff.1 h
        intro y hy
        rcases List.mem_append.1 hy with hy | hy
        · exact List.mem_of_mem_take (List.of_mem_zip (a := y.1) (b := y.2) hy).1
        · exact List.mem_of_mem_drop (plan_free r _ x hx y hy)
set_option maxRecDepth 100000 in
theorem chunks_len (s : Dat) : (chunks s).length * 256 < s.length + 256 := by
  induction h : s.length using Nat.strongRecOn generalizing s with
  | _ n ih =>
    match s, h with
    | [], h => rw [chunks]; simp
    | x :: r, h =>
      rw [chunks, List.length_cons]
      have := ih ((x :: r).drop 256).length (by rw [List.length_drop, h]; simp at h; omega) _ rfl
      rw [List.length_drop] at this
      simp at h this ⊢
      by_cases h2 : (chunks (r.drop 255)).length = 0
      · omega
      · have h3 : 256 ≤ r.length + 1 := by
          by_cases h4 : r.length + 1 ≤ 256
          · have : r.drop 255 = [] := List.drop_eq_nil_of_le (by omega)
            rw [this, chunks] at h2; simp at h2
          · omega
        omega
set_option maxRecDepth 100000 in
theorem bodyW_in {r : Root} {s : Dat} (hs : s.length ≤ 3840) : ∀ y ∈ bodyW r s, rootAt r < y.1 ∧ y.1 ≤ rootAt r + 15 := by
  intro y hy
  unfold bodyW at hy
  obtain ⟨p, hp, rfl⟩ := List.mem_map.1 hy
  have := (List.mem_zipIdx hp).2.1
  have h2 := chunks_len s
  simp only
  omega
theorem encode_short (r : Root) (n : Int) : (encode r n).1.length ≤ 3840 := by
  unfold encode
  split
  · split
    · rename_i h; exact h.2
    · simp
  · simp
/-- P4.10 -/
theorem commit_keeps {σ : Bl.St} {φ : FS} (hw : σ.wait = []) (hsafe : ∀ f ∈ φ.safe.files, ∀ b ∈ f.blocks, 32 ≤ b) : ∀ x ∈ (commit σ φ).1.wait, ¬ (rootAt φ.safe ≤ (x.1 : Int) ∧ (x.1 : Int) < rootAt φ.safe + 16) ∧ ∀ f ∈ φ.safe.files, (x.1 : Int) ∉ f.blocks := by
  intro x hx
  unfold commit at hx
  split at hx
  · rw [hw] at hx; cases hx
  · split at hx
    · rw [hw] at hx; cases hx
    · split at hx
      · rw [hw] at hx; cases hx
      · rename_i p hp
        have key : x ∈ (put σ p.2 ⟨φ.safe.gen + 1, p.1⟩).1.wait → _ := fun h => put_wait σ p.2 _ x h
        have hin : x ∈ (put σ p.2 ⟨φ.safe.gen + 1, p.1⟩).1.wait ∨ x ∈ σ.wait := by
          split at hx
          · exact .inr hx
          · split at hx <;> exact .inl hx
        rcases hin with hin | hin
        · have hfree : ∀ b ∈ freeL σ φ, 32 ≤ b ∧ ∀ f ∈ φ.safe.files, b ∉ f.blocks := fun b hb => by
            unfold freeL at hb
            have := (List.mem_filter.1 hb).2
            simp at this
            exact ⟨this.1, fun f hf => this.2 f hf⟩
          have hr : rootAt (⟨φ.safe.gen + 1, p.1⟩ : Root) = 16 - rootAt φ.safe := by unfold rootAt; simp only; omega
          have hr2 : rootAt φ.safe = 0 ∨ rootAt φ.safe = 16 := by unfold rootAt; omega
          have low : ∀ {b : Int}, b < 32 → ∀ f ∈ φ.safe.files, b ∉ f.blocks := fun hb f hf hm => by have := hsafe f hf _ hm; omega
          rcases key hin with h | ⟨y, hy, e⟩ | ⟨y, hy, e⟩ | e
          · rw [hw] at h; cases h
          · obtain ⟨k1, k2⟩ := hfree y.1 (plan_free _ _ p hp y hy)
            rw [e]
            exact ⟨by omega, k2⟩
          · obtain ⟨k1, k2⟩ := bodyW_in (encode_short _ _) y hy
            rw [e]
            exact ⟨by omega, low (by omega)⟩
          · rw [e]
            exact ⟨by omega, low (by omega)⟩
        · rw [hw] at hin; cases hin
end Fi
end Go.Proofs.Yteckjhhbljoklaa

/-
  Plain mathematics of P4.1: a root's bytes tell the root.
-/
namespace Go.Proofs.Yteckjhhbljoklaa
namespace Fi

theorem putU_inj {a b : Nat} {x y : Dat} (ha : a < 18446744073709551616) (hb : b < 18446744073709551616) (h : Cd.putU a ++ x = Cd.putU b ++ y) : a = b ∧ x = y := by
  have h1 := Cd.takeU_putU a x ha
  rw [h, Cd.takeU_putU b y hb] at h1
  obtain rfl : b = a := congrArg (·.1) h1
  exact ⟨rfl, List.append_cancel_left h⟩
theorem putT_inj {s t x y : Dat} (ha : s.length < 18446744073709551616) (hb : t.length < 18446744073709551616) (h : Cd.putT s ++ x = Cd.putT t ++ y) : s = t ∧ x = y := by
  unfold Cd.putT at h
  rw [List.append_assoc, List.append_assoc] at h
  obtain ⟨h1, h2⟩ := putU_inj ha hb h
  exact List.append_inj h2 h1
/-- a run that may be -/
def RunOk (p : Int × Nat) : Prop := 0 ≤ p.1 ∧ p.1 < 18446744073709551616 ∧ p.2 < 18446744073709551616
theorem runB_inj {p q : Int × Nat} {x y : Dat} (hp : RunOk p) (hq : RunOk q) (h : runB p ++ x = runB q ++ y) : p = q ∧ x = y := by
  unfold runB at h
  rw [List.append_assoc, List.append_assoc] at h
  obtain ⟨h1, h2⟩ := putU_inj (by have := hp.2.1; omega) (by have := hq.2.1; omega) h
  obtain ⟨h3, h4⟩ := putU_inj hp.2.2 hq.2.2 h2
  have := hp.1
  have := hq.1
  exact ⟨Prod.ext (by omega) h3, h4⟩
theorem runsB_inj : ∀ {L L' : List (Int × Nat)} {x y : Dat}, L.length = L'.length → (∀ p ∈ L, RunOk p) → (∀ p ∈ L', RunOk p) → L.flatMap runB ++ x = L'.flatMap runB ++ y → L = L' ∧ x = y
  | [], [], x, y, _, _, _, h => ⟨rfl, by simpa using h⟩
  | [], q :: r, _, _, hl, _, _, _ => by simp at hl
  | p :: r, [], _, _, hl, _, _, _ => by simp at hl
  | p :: r, q :: r', x, y, hl, hp, hq, h => by
    rw [List.flatMap_cons, List.flatMap_cons, List.append_assoc, List.append_assoc] at h
    obtain ⟨h1, h2⟩ := runB_inj (hp p (List.mem_cons_self ..)) (hq q (List.mem_cons_self ..)) h
    obtain ⟨h3, h4⟩ := runsB_inj (by simpa using hl) (fun z hz => hp z (List.mem_cons_of_mem _ hz)) (fun z hz => hq z (List.mem_cons_of_mem _ hz)) h2
    exact ⟨by rw [h1, h3], h4⟩
theorem runs_ok (l : List Int) (h : ∀ b ∈ l, 0 ≤ b ∧ b < 18446744073709551616) (hl : l.length < 18446744073709551615) : ∀ p ∈ runs l, RunOk p := by
  induction hn : l.length using Nat.strongRecOn generalizing l with
  | _ n ih =>
    match l, hn with
    | [], _ => intro p hp; rw [runs] at hp; cases hp
    | y :: r, hn =>
      rw [runs_cons]
      intro p hp
      rcases List.mem_cons.1 hp with rfl | hp
      · have := runLen_le r y
        have h0 := h y (List.mem_cons_self ..)
        simp at hl
        exact ⟨h0.1, h0.2, by simp only; omega⟩
      · simp at hn hl
        exact ih (r.drop (runLen y r)).length (by simp; omega) _ (fun b hb => h b (List.mem_cons_of_mem _ (List.mem_of_mem_drop hb))) (by simp; omega) rfl p hp
/-- a file that may be in a root -/
structure FOk (f : File) : Prop where
  name : f.name.length ≤ 32
  size : 0 ≤ f.size ∧ f.size < 18446744073709551616
  blocks : ∀ b ∈ f.blocks, 0 ≤ b ∧ b < 18446744073709551616
  many : f.blocks.length < 18446744073709551615
theorem fileBytes_inj {f g : File} {x y : Dat} (hf : FOk f) (hg : FOk g) (h : fileBytes f ++ x = fileBytes g ++ y) : f = g ∧ x = y := by
  unfold fileBytes runBytes at h
  simp only [List.append_assoc] at h
  obtain ⟨h1, h2⟩ := putT_inj (by have := hf.name; omega) (by have := hg.name; omega) h
  obtain ⟨h3, h4⟩ := putU_inj (by have := hf.size; omega) (by have := hg.size; omega) h2
  have rf := runs_len f.blocks
  have rg := runs_len g.blocks
  have mf := hf.many
  have mg := hg.many
  obtain ⟨h5, h6⟩ := putU_inj (by omega) (by omega) h4
  obtain ⟨h7, h8⟩ := runsB_inj h5 (runs_ok _ hf.blocks hf.many) (runs_ok _ hg.blocks hg.many) h6
  have h9 : f.blocks = g.blocks := by rw [← runs_expand f.blocks, h7, runs_expand]
  obtain ⟨fn, fs, fb⟩ := f
  obtain ⟨gn, gs, gb⟩ := g
  simp only at h1 h3 h9
  have s1 := hf.size
  have s2 := hg.size
  simp only at s1 s2
  obtain rfl : fs = gs := by omega
  exact ⟨by rw [h1, h9], h8⟩
theorem files_inj : ∀ {L L' : List File} {x y : Dat}, L.length = L'.length → (∀ f ∈ L, FOk f) → (∀ f ∈ L', FOk f) → L.flatMap fileBytes ++ x = L'.flatMap fileBytes ++ y → L = L' ∧ x = y
  | [], [], x, y, _, _, _, h => ⟨rfl, by simpa using h⟩
  | [], q :: r, _, _, hl, _, _, _ => by simp at hl
  | p :: r, [], _, _, hl, _, _, _ => by simp at hl
  | p :: r, q :: r', x, y, hl, hp, hq, h => by
    rw [List.flatMap_cons, List.flatMap_cons, List.append_assoc, List.append_assoc] at h
    obtain ⟨h1, h2⟩ := fileBytes_inj (hp p (List.mem_cons_self ..)) (hq q (List.mem_cons_self ..)) h
    obtain ⟨h3, h4⟩ := files_inj (by simpa using hl) (fun z hz => hp z (List.mem_cons_of_mem _ hz)) (fun z hz => hq z (List.mem_cons_of_mem _ hz)) h2
    exact ⟨by rw [h1, h3], h4⟩
/-- a root that may be -/
structure ROk (r : Root) : Prop where
  gen : 1 ≤ r.gen ∧ r.gen ≤ 4611686018427387904
  many : r.files.length ≤ 64
  files : ∀ f ∈ r.files, FOk f
theorem rootLoad_inj {r q : Root} {x y : Dat} (hr : ROk r) (hq : ROk q) (h : rootLoad r ++ x = rootLoad q ++ y) : r = q ∧ x = y := by
  unfold rootLoad at h
  simp only [List.append_assoc] at h
  have := hr.gen
  have := hq.gen
  have := hr.many
  have := hq.many
  obtain ⟨h1, h2⟩ := putU_inj (by omega) (by omega) h
  obtain ⟨h3, h4⟩ := putU_inj (by omega) (by omega) h2
  obtain ⟨h5, h6⟩ := files_inj h3 hr.files hq.files h4
  obtain ⟨rg, rf⟩ := r
  obtain ⟨qg, qf⟩ := q
  simp only at h1 h5
  exact ⟨by rw [h1, h5], h6⟩
/-- the root with whose bytes a text begins is one alone -/
theorem isRoot_one {l : Dat} {n : Int} {r q : Root} (hr : ROk r) (hq : ROk q) (h1 : IsRoot l n r) (h2 : IsRoot l n q) (lr : (rootLoad r).length ≤ 262144) (lq : (rootLoad q).length ≤ 262144) : r = q := by
  obtain ⟨e1, t1, p1⟩ := h1
  obtain ⟨e2, t2, p2⟩ := h2
  have f1 := Fr.take_put (c := 1) (l := rootLoad r) (r := t1) (by decide) lr
  have f2 := Fr.take_put (c := 1) (l := rootLoad q) (r := t2) (by decide) lq
  have x1 : (encode r n).1 = (Fr.put 1 (rootLoad r)).1 := by
    unfold encode at e1 ⊢
    split at e1
    · rename_i h
      rw [if_pos h]
      split at e1
      · rename_i h'; rw [if_pos h']
      · cases e1
    · cases e1
  have x2 : (encode q n).1 = (Fr.put 1 (rootLoad q)).1 := by
    unfold encode at e2 ⊢
    split at e2
    · rename_i h
      rw [if_pos h]
      split at e2
      · rename_i h'; rw [if_pos h']
      · cases e2
    · cases e2
  rw [← x1, p1] at f1
  rw [← x2, p2, f1] at f2
  have h3 : rootLoad r = rootLoad q := congrArg (fun z => z.1.2) f2
  exact (rootLoad_inj (x := []) (y := []) hr hq (by rw [h3])).1
theorem put_load {c : UInt8} {l : Dat} (h : (Fr.put c l).2 = 0) : l.length ≤ 262144 := by
  by_cases h1 : 262144 < l.length
  · rw [Fr.put_long h1] at h; cases h
  · omega
theorem encode_ok {r : Root} {n : Int} (h : (encode r n).2 = 0) : may r (min n 16384) = true ∧ (Fr.put 1 (rootLoad r)).2 = 0 ∧ (Fr.put 1 (rootLoad r)).1.length ≤ 3840 ∧ (encode r n).1 = (Fr.put 1 (rootLoad r)).1 := by
  unfold encode at h ⊢
  split at h
  · rename_i h1
    rw [if_pos h1]
    split at h
    · rename_i h2
      rw [if_pos h2]
      exact ⟨h1, h2.1, h2.2, rfl⟩
    · cases h
  · cases h
theorem rok_of_may {r : Root} {m : Int} (hm : m ≤ 16384) (h : may r m = true) : ROk r := by
  obtain ⟨g1, g2, g3, hf⟩ := may_in h
  have hgo : mayGo m r.files none [] = true := by
    unfold may at h
    simp only [Bool.and_eq_true] at h
    exact h.2
  refine ⟨⟨g1, g2⟩, g3, fun f hff => ?_⟩
  obtain ⟨k1, k2, k3⟩ := hf f hff
  obtain ⟨l1, l2⟩ := mayGo_len hm hgo List.nodup_nil (fun b hb => by cases hb) f hff
  refine ⟨k3, ⟨k2, ?_⟩, fun b hb => by have := k1 b hb; omega, by omega⟩
  unfold takes at l2
  omega
/-- THE ROOT WITH WHOSE BYTES A TEXT BEGINS IS ONE ALONE -/
theorem isRoot_same {l : Dat} {n : Int} {r q : Root} (h1 : IsRoot l n r) (h2 : IsRoot l n q) : r = q := by
  obtain ⟨a1, b1, _, _⟩ := encode_ok h1.1
  obtain ⟨a2, b2, _, _⟩ := encode_ok h2.1
  exact isRoot_one (rok_of_may (Int.min_le_right _ _) a1) (rok_of_may (Int.min_le_right _ _) a2) h1 h2 (put_load b1) (put_load b2)
theorem decode_iff {l : Dat} {n : Int} {r : Root} : decode l n = some r ↔ IsRoot l n r := by
  unfold decode
  constructor
  · intro h
    split at h
    · rename_i hx
      rw [← Option.some.inj h]
      exact hx.choose_spec
    · cases h
  · intro h
    have hx : ∃ r, IsRoot l n r := ⟨r, h⟩
    rw [dif_pos hx]
    exact congrArg some (isRoot_same hx.choose_spec h)
theorem decode_none {l : Dat} {n : Int} : decode l n = none ↔ ∀ r, ¬ IsRoot l n r := by
  unfold decode
  constructor
  · intro h r hr
    rw [dif_pos ⟨r, hr⟩] at h
    cases h
  · intro h
    rw [dif_neg (fun ⟨r, hr⟩ => h r hr)]
theorem decode_encode {r : Root} {n : Int} {rest : Dat} (h : (encode r n).2 = 0) : decode ((encode r n).1 ++ rest) n = some r := decode_iff.2 ⟨h, rest, rfl⟩
end Fi
end Go.Proofs.Yteckjhhbljoklaa
