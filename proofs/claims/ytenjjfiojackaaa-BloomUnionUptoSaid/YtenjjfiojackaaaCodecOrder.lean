/-
  Plain mathematics of P1.6: the order of texts, and the text behind all that begin with a given one.
-/
import Derived.Test.YtenjjfiojackaaaCodecPlain
namespace Go.Proofs.Ytenjjfiojackaaa
namespace Cd
open Op (bytesLess)

theorem bl_cons (a b : UInt8) (x y : List UInt8) : bytesLess (a :: x) (b :: y) = (decide (a.toNat < b.toNat) || (decide (a.toNat = b.toNat) && bytesLess x y)) := by
  rw [bytesLess]
  have h1 : decide (a < b) = decide (a.toNat < b.toNat) := by rw [decide_eq_decide, UInt8.lt_iff_toNat_lt]
  have h2 : (a == b) = decide (a.toNat = b.toNat) := by
    rw [Bool.eq_iff_iff]; simp [UInt8.toNat_inj]
  rw [h1, h2]
theorem bl_nil_r (x : List UInt8) : bytesLess x [] = false := by cases x <;> rfl
theorem bl_nil_l (a : UInt8) (x : List UInt8) : bytesLess [] (a :: x) = true := rfl

/-- 't > s', as the walk spells it -/
def gt (t s : List UInt8) : Bool := !bytesLess t s && !(t == s)
theorem gt_nil (a : UInt8) (x : List UInt8) : gt [] (a :: x) = false := by simp [gt, bl_nil_l]
theorem gt_cons (a b : UInt8) (x y : List UInt8) : gt (a :: x) (b :: y) = (decide (b.toNat < a.toNat) || (decide (a.toNat = b.toNat) && gt x y)) := by
  unfold gt
  have h2 : ((a :: x) == (b :: y)) = (decide (a.toNat = b.toNat) && (x == y)) := by
    rw [Bool.eq_iff_iff]; simp [UInt8.toNat_inj]
  rw [bl_cons, h2]
  rcases Nat.lt_trichotomy a.toNat b.toNat with h | h | h
  · have e1 : decide (a.toNat < b.toNat) = true := by simpa using h
    have e2 : decide (a.toNat = b.toNat) = false := by simp; omega
    have e3 : decide (b.toNat < a.toNat) = false := by simp; omega
    rw [e1, e2, e3]; simp
  · have e1 : decide (a.toNat < b.toNat) = false := by simp; omega
    have e2 : decide (a.toNat = b.toNat) = true := by simpa using h
    have e3 : decide (b.toNat < a.toNat) = false := by simp; omega
    rw [e1, e2, e3]; simp
  · have e1 : decide (a.toNat < b.toNat) = false := by simp; omega
    have e2 : decide (a.toNat = b.toNat) = false := by simp; omega
    have e3 : decide (b.toNat < a.toNat) = true := by simpa using h
    rw [e1, e2, e3]; simp

theorem up_toNat {c : UInt8} (h : c.toNat ≠ 255) : (c + 1).toNat = c.toNat + 1 := by
  have := c.toNat_lt
  rw [UInt8.toNat_add]; simp; omega

theorem behindGo_shape (l : List UInt8) : ∀ n, n ≤ l.length →
    (behindGo l n = [] ∧ hasLow (l.take n) = false) ∨ ∃ p c m, l.take n = p ++ c :: List.replicate m 255 ∧ c.toNat ≠ 255 ∧ behindGo l n = p ++ [c + 1] := by
  intro n
  induction n with
  | zero => intro _; exact .inl ⟨rfl, rfl⟩
  | succ n ih =>
    intro h
    have hg : l.getD n 0 = l[n] := by rw [List.getD_eq_getElem?_getD, List.getElem?_eq_getElem (by omega)]; rfl
    have ht : l.take (n + 1) = l.take n ++ [l[n]] := List.take_succ_eq_append_getElem (by omega)
    by_cases he : l[n].toNat = 255
    · have e : behindGo l (n + 1) = behindGo l n := by rw [behindGo, hg, if_pos he]
      rw [e, ht]
      rcases ih (by omega) with ⟨h1, h2⟩ | ⟨p, c, m, h1, h2, h3⟩
      · refine .inl ⟨h1, ?_⟩
        clear h1 ht
        revert h2
        induction l.take n with
        | nil => intro _; simp [hasLow, he]
        | cons a r ih => intro h; by_cases ha : a.toNat = 255 <;> simp_all [hasLow]
      · refine .inr ⟨p, c, m + 1, ?_, h2, h3⟩
        have h255 : l[n] = 255 := UInt8.toNat_inj.1 (by simpa using he)
        rw [h1, h255, List.replicate_succ', List.append_assoc, List.cons_append]
    · exact .inr ⟨l.take n, l[n], 0, by rw [ht]; rfl, he, by rw [behindGo, hg, if_neg he]⟩
theorem behind_shape (l : List UInt8) : (behind l = [] ∧ hasLow l = false) ∨ ∃ p c m, l = p ++ c :: List.replicate m 255 ∧ c.toNat ≠ 255 ∧ behind l = p ++ [c + 1] := by
  have := behindGo_shape l l.length (Nat.le_refl _)
  rwa [List.take_of_length_le (Nat.le_refl _)] at this

theorem gt_rep : ∀ (m : Nat) (t : List UInt8), common (List.replicate m 255) t ≠ m → gt t (List.replicate m 255) = false
  | 0, t, h => absurd (by rw [List.replicate_zero, common_nil_l]) h
  | m + 1, [], _ => by rw [List.replicate_succ]; exact gt_nil _ _
  | m + 1, d :: t, h => by
    rw [List.replicate_succ] at h ⊢
    rw [gt_cons]
    have hd := d.toNat_lt
    have h255 : (255 : UInt8).toNat = 255 := rfl
    by_cases e : d.toNat = 255
    · have e' : (255 : UInt8).toNat = d.toNat := by omega
      rw [common_eq e'] at h
      rw [gt_rep m t (by omega)]
      simp [h255, e]
    · have e1 : decide ((255 : UInt8).toNat < d.toNat) = false := by simp [h255]; omega
      have e2 : decide (d.toNat = (255 : UInt8).toNat) = false := by simp [h255]; omega
      rw [e1, e2]; rfl

/-- what the law asks of the text behind -/
def Fits (s t b : List UInt8) : Prop :=
  (common s t = s.length → bytesLess t b = true) ∧ (common s t ≠ s.length → (gt t s = true → bytesLess t b = false) ∧ (gt t s = false → bytesLess t b = true))

theorem fits (c : UInt8) (m : Nat) (hc : c.toNat ≠ 255) : ∀ (p t : List UInt8), Fits (p ++ c :: List.replicate m 255) t (p ++ [c + 1])
  | [], [] => by
    refine ⟨fun h => ?_, fun _ => ⟨fun h => ?_, fun _ => rfl⟩⟩
    · rw [common_nil_r] at h; simp at h
    · rw [List.nil_append, gt_nil] at h; cases h
  | [], d :: t => by
    have hu := up_toNat hc
    have hb : bytesLess (d :: t) ([] ++ [c + 1]) = decide (d.toNat < c.toNat + 1) := by
      rw [List.nil_append, bl_cons, bl_nil_r, hu]; simp
    unfold Fits
    rw [hb, List.nil_append, gt_cons]
    rcases Nat.lt_trichotomy d.toNat c.toNat with h | h | h
    · have e1 : decide (c.toNat < d.toNat) = false := by simp; omega
      have e2 : decide (d.toNat = c.toNat) = false := by simp; omega
      have e3 : decide (d.toNat < c.toNat + 1) = true := by simp; omega
      rw [e1, e2, e3]; simp
    · have e1 : decide (c.toNat < d.toNat) = false := by simp; omega
      have e2 : decide (d.toNat = c.toNat) = true := by simpa using h
      have e3 : decide (d.toNat < c.toNat + 1) = true := by simp; omega
      rw [e1, e2, e3, common_eq (by omega)]
      refine ⟨fun _ => rfl, fun hn => ?_⟩
      have := gt_rep m t (by intro e; apply hn; rw [e]; simp)
      rw [this]; simp
    · have e1 : decide (c.toNat < d.toNat) = true := by simpa using h
      have e3 : decide (d.toNat < c.toNat + 1) = false := by simp; omega
      rw [e1, e3, common_ne (by omega)]
      simp
  | a :: p, [] => by
    refine ⟨fun h => ?_, fun _ => ⟨fun h => ?_, fun _ => rfl⟩⟩
    · rw [common_nil_r] at h; simp at h
    · rw [List.cons_append, gt_nil] at h; cases h
  | a :: p, d :: t => by
    have ih := fits c m hc p t
    unfold Fits at ih ⊢
    rw [List.cons_append, List.cons_append, bl_cons, gt_cons]
    rcases Nat.lt_trichotomy d.toNat a.toNat with h | h | h
    · have e1 : decide (a.toNat < d.toNat) = false := by simp; omega
      have e2 : decide (d.toNat = a.toNat) = false := by simp; omega
      have e3 : decide (d.toNat < a.toNat) = true := by simpa using h
      rw [e1, e2, e3]; simp
    · have e1 : decide (a.toNat < d.toNat) = false := by simp; omega
      have e2 : decide (d.toNat = a.toNat) = true := by simpa using h
      have e3 : decide (d.toNat < a.toNat) = false := by simp; omega
      rw [e1, e2, e3, common_eq (by omega), List.length_cons]
      simp only [Bool.false_or, Bool.true_and]
      refine ⟨fun h => ih.1 (by omega), fun h => ih.2 (by omega)⟩
    · have e1 : decide (a.toNat < d.toNat) = true := by simpa using h
      have e2 : decide (d.toNat = a.toNat) = false := by simp; omega
      have e3 : decide (d.toNat < a.toNat) = false := by simp; omega
      rw [e1, e2, e3, common_ne (by omega)]
      simp
theorem behind_fits (s t : List UInt8) (h : behind s ≠ []) : Fits s t (behind s) := by
  rcases behind_shape s with ⟨h1, _⟩ | ⟨p, c, m, h1, h2, h3⟩
  · exact absurd h1 h
  · rw [h3]
    have := fits c m h2 p t
    rwa [← h1] at this
theorem behind_none (s : List UInt8) (h : behind s = []) : hasLow s = false := by
  rcases behind_shape s with ⟨_, h1⟩ | ⟨p, c, m, _, _, h3⟩
  · exact h1
  · rw [h] at h3; simp at h3
end Cd
end Go.Proofs.Ytenjjfiojackaaa
