/-
  Plain mathematics of chapter 7 (bloom): hashes, places, filters; what was built in is never denied.
-/
import Derived.Test.YtenjjfiojackaaaCodecBig
namespace Go.Proofs.Ytenjjfiojackaaa
open Go.RowKit
namespace Bm
/-- P7.1, as the walk spells it -/
def hashGo : List UInt8 → Int → Int
  | [], h => h
  | c :: r, h => hashGo r (IntKind.u64.wrap (bits BinOp.xor IntKind.u64 h (c.toNat : Int) * 1099511628211))
def hash (l : List UInt8) : Int := mixOf (hashGo l 14695981039346656037)
def dOf (h : Int) : Int := bits BinOp.or IntKind.u64 (IntKind.u64.wrap (h * 2 ^ 31)) (h / 2 ^ 33)
def placesGo : Nat → Int → Int → Int → List Int
  | 0, _, _, _ => []
  | k + 1, h, d, m => (h % m) :: placesGo k (IntKind.u64.wrap (h + d)) d m
/-- P7.3: a key's bits, k of them, in a filter of m bits -/
def places (key : List UInt8) (k : Nat) (m : Int) : List Int := placesGo k (hash key) (dOf (hash key)) m
/-- a byte with one bit more -/
def orB (x : UInt8) (i : Nat) : UInt8 := UInt8.ofNat (x.toNat ||| 2 ^ (i % 8))
def setB (l : List UInt8) (i : Nat) : List UInt8 := l.set (1 + i / 8) (orB (l.getD (1 + i / 8) 0) i)
def setAll (l : List UInt8) (is : List Int) : List UInt8 := is.foldl (fun l i => setB l i.toNat) l
def fill (k : Nat) (m : Int) (l : List UInt8) (keys : List (List UInt8)) : List UInt8 := keys.foldl (fun l key => setAll l (places key k m)) l
def kOf (b : Int) : Nat := (max (min b 20 * 69 / 100) 1).toNat
/-- how many bytes the bits take -/
def bytesOf (b : Int) (n : Nat) : Nat := ((max (min b 20 * (n : Int)) 64).toNat + 7) / 8
/-- P7.4 -/
def build (b : Int) (keys : List (List UInt8)) : List UInt8 :=
  if b < 1 ∨ keys = [] then [] else fill (kOf b) (8 * (bytesOf b keys.length : Nat)) (UInt8.ofNat (kOf b) :: List.replicate (bytesOf b keys.length) 0) keys
/-- P7.2 -/
def valid (s : List UInt8) : Bool := decide (s = []) || (decide (9 ≤ s.length) && decide (1 ≤ (s.getD 0 0).toNat) && decide ((s.getD 0 0).toNat ≤ 30))
def bitB (s : List UInt8) (i : Nat) : Bool := decide ((s.getD (1 + i / 8) 0).toNat / 2 ^ (i % 8) % 2 = 1)
/-- P7.5 -/
def has (s key : List UInt8) : Bool := if valid s = false ∨ s = [] then true else (places key (s.getD 0 0).toNat (8 * ((s.length : Int) - 1))).all fun i => bitB s i.toNat
def load (s : List UInt8) : Nat × Nat := if valid s = false ∨ s = [] then (0, 0) else (((List.range (8 * (s.length - 1))).filter fun i => bitB s i).length, 8 * (s.length - 1))

theorem setB_len (l : List UInt8) (i : Nat) : (setB l i).length = l.length := by simp [setB]
theorem setAll_len (is : List Int) : ∀ l, (setAll l is).length = l.length := by
  induction is with
  | nil => intro l; rfl
  | cons i r ih => intro l; exact (ih _).trans (setB_len _ _)
theorem fill_len (k : Nat) (m : Int) (keys : List (List UInt8)) : ∀ l, (fill k m l keys).length = l.length := by
  induction keys with
  | nil => intro l; rfl
  | cons x r ih => intro l; exact (ih _).trans (setAll_len _ _)
theorem places_in : ∀ (k : Nat) (h d m : Int), 0 < m → ∀ i ∈ placesGo k h d m, 0 ≤ i ∧ i < m
  | 0, _, _, _, _, i, hi => by cases hi
  | k + 1, h, d, m, hm, i, hi => by
    rcases List.mem_cons.1 hi with rfl | hi
    · exact ⟨Int.emod_nonneg _ (by omega), Int.emod_lt_of_pos _ hm⟩
    · exact places_in k _ d m hm i hi
theorem placesGo_len : ∀ (k : Nat) (h d m : Int), (placesGo k h d m).length = k
  | 0, _, _, _ => rfl
  | k + 1, h, d, m => by rw [placesGo, List.length_cons, placesGo_len k]
/-! ### bytes, one within another -/
/-- all bits of x are y's -/
def Sub (x y : UInt8) : Prop := x ||| y = y
theorem Sub.refl (x : UInt8) : Sub x x := by unfold Sub; simp
theorem Sub.trans {x y z : UInt8} (h : Sub x y) (k : Sub y z) : Sub x z := by unfold Sub at *; rw [← k, ← UInt8.or_assoc, h]
theorem orB_eq (x : UInt8) (i : Nat) : orB x i = x ||| UInt8.ofNat (2 ^ (i % 8)) := by
  unfold orB
  apply UInt8.toNat_inj.1
  have h8 : i % 8 < 8 := Nat.mod_lt _ (by omega)
  have hp : 2 ^ (i % 8) < 256 := Nat.lt_of_lt_of_le (Nat.pow_lt_pow_right (by omega) h8) (Nat.le_refl _)
  have hx := x.toNat_lt
  have := Nat.or_lt_two_pow (x := x.toNat) (y := 2 ^ (i % 8)) (n := 8) (by omega) (by omega)
  rw [UInt8.toNat_or, UInt8.toNat_ofNat', UInt8.toNat_ofNat']
  have e1 : (2 ^ (i % 8)) % 2 ^ 8 = 2 ^ (i % 8) := Nat.mod_eq_of_lt (by omega)
  have e2 : (x.toNat ||| 2 ^ (i % 8)) % 2 ^ 8 = (x.toNat ||| 2 ^ (i % 8)) := Nat.mod_eq_of_lt (by omega)
  rw [e1, e2]
theorem sub_or (x : UInt8) (i : Nat) : Sub x (orB x i) := by rw [orB_eq]; unfold Sub; rw [← UInt8.or_assoc]; simp
theorem or_sub {x y : UInt8} (h : Sub x y) (i : Nat) : Sub (orB x i) (orB y i) := by
  rw [orB_eq, orB_eq]; unfold Sub at *
  rw [UInt8.or_assoc, ← UInt8.or_assoc (UInt8.ofNat _) y, UInt8.or_comm (UInt8.ofNat _) y, UInt8.or_assoc y, ← UInt8.or_assoc x, h]; simp
/-- all bits of a are b's, behind the head -/
def SubL (a b : List UInt8) : Prop := a.length = b.length ∧ ∀ j, 1 ≤ j → Sub (a.getD j 0) (b.getD j 0)
theorem SubL.refl (a : List UInt8) : SubL a a := ⟨rfl, fun _ _ => Sub.refl _⟩
theorem SubL.trans {a b c : List UInt8} (h : SubL a b) (k : SubL b c) : SubL a c := ⟨h.1.trans k.1, fun j hj => (h.2 j hj).trans (k.2 j hj)⟩
theorem getD_set (l : List UInt8) (k j : Nat) (x : UInt8) : (l.set k x).getD j 0 = if k = j ∧ j < l.length then x else l.getD j 0 := by
  simp only [List.getD_eq_getElem?_getD, List.getElem?_set]
  by_cases h : k = j
  · subst h
    by_cases h2 : k < l.length
    · simp [h2]
    · simp [h2]
  · simp [h]
theorem subL_set (l : List UInt8) (i : Nat) : SubL l (setB l i) := by
  refine ⟨(setB_len _ _).symm, fun j _ => ?_⟩
  unfold setB
  rw [getD_set]
  split
  · rename_i h; rw [h.1]; exact sub_or _ _
  · exact Sub.refl _
theorem subL_setAll (is : List Int) : ∀ l, SubL l (setAll l is) := by
  induction is with
  | nil => intro l; exact SubL.refl _
  | cons i r ih => intro l; exact (subL_set l i.toNat).trans (ih _)
theorem subL_fill (k : Nat) (m : Int) (keys : List (List UInt8)) : ∀ l, SubL l (fill k m l keys) := by
  induction keys with
  | nil => intro l; exact SubL.refl _
  | cons x r ih => intro l; exact (subL_setAll _ l).trans (ih _)
theorem fill_app (k : Nat) (m : Int) (l : List UInt8) (a b : List (List UInt8)) : fill k m l (a ++ b) = fill k m (fill k m l a) b := by simp [fill]
theorem bit_or (x : UInt8) (i : Nat) : (orB x i).toNat / 2 ^ (i % 8) % 2 = 1 := by
  have h8 : i % 8 < 8 := Nat.mod_lt _ (by omega)
  have hp : 2 ^ (i % 8) < 256 := Nat.lt_of_lt_of_le (Nat.pow_lt_pow_right (by omega) h8) (Nat.le_refl _)
  have hx := x.toNat_lt
  have := Nat.or_lt_two_pow (x := x.toNat) (y := 2 ^ (i % 8)) (n := 8) (by omega) (by omega)
  unfold orB
  have e2 : (x.toNat ||| 2 ^ (i % 8)) % 2 ^ 8 = (x.toNat ||| 2 ^ (i % 8)) := Nat.mod_eq_of_lt (by omega)
  rw [UInt8.toNat_ofNat', e2]
  have ht : (x.toNat ||| 2 ^ (i % 8)).testBit (i % 8) = true := by simp
  rw [Nat.testBit_eq_decide_div_mod_eq] at ht
  simpa using ht
theorem bit_sub {x y : UInt8} (h : Sub x y) (e : Nat) (hb : x.toNat / 2 ^ e % 2 = 1) : y.toNat / 2 ^ e % 2 = 1 := by
  have h1 : (x.toNat ||| y.toNat) = y.toNat := by rw [← UInt8.toNat_or, h]
  have ht : x.toNat.testBit e = true := by rw [Nat.testBit_eq_decide_div_mod_eq]; simpa using hb
  have h2 : y.toNat.testBit e = true := by rw [← h1, Nat.testBit_or, ht]; simp
  rw [Nat.testBit_eq_decide_div_mod_eq] at h2
  simpa using h2
theorem bitB_sub {a b : List UInt8} (h : SubL a b) (i : Nat) (hb : bitB a i = true) : bitB b i = true := by
  unfold bitB at *
  exact decide_eq_true (bit_sub (h.2 (1 + i / 8) (by omega)) _ (of_decide_eq_true hb))
theorem bitB_set (l : List UInt8) (i : Nat) (hi : 1 + i / 8 < l.length) : bitB (setB l i) i = true := by
  unfold bitB setB
  rw [getD_set, if_pos ⟨rfl, hi⟩]
  exact decide_eq_true (bit_or _ _)
theorem bits_setAll : ∀ (is : List Int) (l : List UInt8), (∀ i ∈ is, 1 + i.toNat / 8 < l.length) → ∀ i ∈ is, bitB (setAll l is) i.toNat = true
  | [], _, _, i, hi => by cases hi
  | x :: r, l, h, i, hi => by
    rcases List.mem_cons.1 hi with rfl | hi
    · exact bitB_sub (subL_setAll r _) _ (bitB_set l _ (h i (List.mem_cons_self ..)))
    · exact bits_setAll r (setB l x.toNat) (fun j hj => by rw [setB_len]; exact h j (List.mem_cons_of_mem _ hj)) i hi
theorem bits_fill (k : Nat) (m : Int) (hm : 0 < m) : ∀ (keys : List (List UInt8)) (l : List UInt8), m ≤ 8 * ((l.length : Int) - 1) → ∀ key ∈ keys, ∀ i ∈ places key k m, bitB (fill k m l keys) i.toNat = true
  | [], _, _, key, hk => by cases hk
  | x :: r, l, hl, key, hk => by
    intro i hi
    rcases List.mem_cons.1 hk with rfl | hk
    · refine bitB_sub (subL_fill k m r _) _ (bits_setAll (places key k m) l (fun j hj => ?_) i hi)
      have := places_in k _ _ m hm j hj
      omega
    · exact bits_fill k m hm r (setAll l (places x k m)) (by rw [setAll_len]; exact hl) key hk i hi
theorem head_set (l : List UInt8) (i : Nat) : (setB l i).getD 0 0 = l.getD 0 0 := by
  unfold setB; rw [getD_set, if_neg (by omega)]
theorem head_setAll (is : List Int) : ∀ l, (setAll l is).getD 0 0 = l.getD 0 0 := by
  induction is with
  | nil => intro l; rfl
  | cons i r ih => intro l; exact (ih _).trans (head_set _ _)
theorem head_fill (k : Nat) (m : Int) (keys : List (List UInt8)) : ∀ l, (fill k m l keys).getD 0 0 = l.getD 0 0 := by
  induction keys with
  | nil => intro l; rfl
  | cons x r ih => intro l; exact (ih _).trans (head_setAll _ _)
theorem kOf_in (b : Int) : 1 ≤ kOf b ∧ kOf b ≤ 13 := by unfold kOf; omega
theorem bytesOf_in (b : Int) (n : Nat) : 8 ≤ bytesOf b n := by unfold bytesOf; omega
theorem build_len {b : Int} {keys : List (List UInt8)} (h : ¬ (b < 1 ∨ keys = [])) : (build b keys).length = 1 + bytesOf b keys.length := by
  unfold build; rw [if_neg h, fill_len]; simp; omega
theorem build_head {b : Int} {keys : List (List UInt8)} (h : ¬ (b < 1 ∨ keys = [])) : ((build b keys).getD 0 0).toNat = kOf b := by
  unfold build; rw [if_neg h, head_fill]
  have := kOf_in b
  simp only [List.getD_cons_zero, UInt8.toNat_ofNat']
  omega
theorem build_valid (b : Int) (keys : List (List UInt8)) : valid (build b keys) = true := by
  by_cases h : b < 1 ∨ keys = []
  · unfold build; rw [if_pos h]; rfl
  · have h1 := build_len h
    have h2 := build_head h
    have h3 := kOf_in b
    have h4 := bytesOf_in b keys.length
    unfold valid
    rw [h2]
    simp only [Bool.or_eq_true, Bool.and_eq_true, decide_eq_true_eq]
    exact .inr ⟨⟨by omega, by omega⟩, by omega⟩
/-- P7.6 -/
theorem has_build (b : Int) (keys : List (List UInt8)) (key : List UInt8) (hk : key ∈ keys) : has (build b keys) key = true := by
  unfold has
  split
  · rfl
  · rename_i hx
    by_cases h : b < 1 ∨ keys = []
    · exact absurd (.inr (by unfold build; rw [if_pos h])) hx
    · have h1 := build_len h
      have h4 := bytesOf_in b keys.length
      rw [build_head h, List.all_eq_true]
      have hm : (8 * (((build b keys).length : Int) - 1)) = 8 * (bytesOf b keys.length : Nat) := by omega
      rw [hm]
      intro i hi
      unfold build
      rw [if_neg h]
      exact bits_fill (kOf b) _ (by omega) keys _ (by simp) key hk i hi
theorem build_nil {b : Int} {keys : List (List UInt8)} (hk : keys ≠ []) : (build b keys = []) ↔ b < 1 := by
  constructor
  · intro h
    by_cases hb : b < 1
    · exact hb
    · have h1 := build_len (b := b) (keys := keys) (fun h => h.elim hb hk)
      rw [h] at h1; simp at h1; omega
  · intro h; unfold build; rw [if_pos (.inl h)]
theorem load_le (s : List UInt8) : (load s).1 ≤ (load s).2 := by
  unfold load
  split
  · exact Nat.le_refl _
  · have := List.length_filter_le (fun i => bitB s i) (List.range (8 * (s.length - 1)))
    simpa using this
theorem load_build {b : Int} {keys : List (List UInt8)} (h : ¬ (b < 1 ∨ keys = [])) : 1 ≤ (load (build b keys)).1 := by
  have hne : ¬ (valid (build b keys) = false ∨ build b keys = []) := by
    rw [build_valid]
    have := build_len h
    intro hx
    rcases hx with hx | hx
    · cases hx
    · rw [hx] at this; simp at this; omega
  obtain ⟨x, hx⟩ := List.exists_mem_of_ne_nil keys (fun e => h (.inr e))
  have hk := kOf_in b
  have hl := build_len h
  have hb8 := bytesOf_in b keys.length
  have hbits := bits_fill (kOf b) (8 * (bytesOf b keys.length : Nat)) (by omega) keys (UInt8.ofNat (kOf b) :: List.replicate (bytesOf b keys.length) 0) (by simp) x hx
  have hp : 0 < (places x (kOf b) (8 * (bytesOf b keys.length : Nat))).length := by unfold places; rw [placesGo_len]; omega
  have hmem := List.getElem_mem hp
  have hin := places_in _ _ _ (8 * ((bytesOf b keys.length : Nat) : Int)) (by omega) _ hmem
  have hb := hbits _ hmem
  generalize (places x (kOf b) (8 * (bytesOf b keys.length : Nat)))[0] = i at *
  unfold load
  rw [if_neg hne]
  refine List.length_pos_iff.2 (fun e => ?_)
  have : i.toNat ∈ (List.range (8 * ((build b keys).length - 1))).filter fun i => bitB (build b keys) i := by
    rw [List.mem_filter, List.mem_range]
    refine ⟨by omega, ?_⟩
    unfold build
    rw [if_neg h]
    exact hb
  rw [e] at this
  cases this
/-- P7.4: of as many bytes, a filter of more keys has all bits of the one of fewer -/
theorem build_union {b : Int} {keys : List (List UInt8)} (n : Nat) (hlen : (build b (keys.take n)).length = (build b keys).length) (hne : build b (keys.take n) ≠ []) : SubL (build b (keys.take n)) (build b keys) ∧ (build b (keys.take n)).getD 0 0 = (build b keys).getD 0 0 := by
  have h1 : ¬ (b < 1 ∨ keys.take n = []) := fun h => hne (by unfold build; rw [if_pos h])
  have h2 : ¬ (b < 1 ∨ keys = []) := fun h => h.elim (fun h => h1 (.inl h)) (fun h => h1 (.inr (by rw [h]; simp)))
  rw [build_len h1, build_len h2] at hlen
  have hb : bytesOf b (keys.take n).length = bytesOf b keys.length := by omega
  have e : build b keys = fill (kOf b) (8 * (bytesOf b keys.length : Nat)) (build b (keys.take n)) (keys.drop n) := by
    unfold build
    rw [if_neg h1, if_neg h2, hb, ← fill_app, List.take_append_drop]
  exact ⟨by rw [e]; exact subL_fill _ _ _ _, by rw [e, head_fill]⟩
end Bm
end Go.Proofs.Ytenjjfiojackaaa
