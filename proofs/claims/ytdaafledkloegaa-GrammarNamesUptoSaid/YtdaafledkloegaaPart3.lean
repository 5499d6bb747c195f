import Derived.Deep.RegionHeld3
import Derived.Deep.DeepCutAuto
import Derived.Deep.Cut
import Derived.Deep.CutRange
import Derived.Deep.CutBlock
import Derived.RangeFuncBox
import Derived.RangeFuncLeaves
import Derived.RangeFuncNested
import Derived.Shelf.Abstract
import Derived.WalkKit
import Derived.OwnWalkIn
import Derived.TacticsInMore
import Derived.LoopNIn
import Derived.LoopIn
import Derived.Lib.AppendStr
import Derived.Lib.BufStepsIn
import Derived.Deep.RegionWith
import Derived.Test.YtdaafledkloegaaPart2
/-
  Plain mathematics of chapter 14: events as numbers, and as bytes. No program is named here.
-/
namespace Go.Proofs.Ytdaafledkloegaa
set_option linter.unusedVariables false
set_option linter.unusedSimpArgs false
namespace Ev
abbrev Dat : Type := List UInt8
def W64 (x : Int) : Prop := -9223372036854775808 ≤ x ∧ x ≤ 9223372036854775807
structure Evt where
  id : Int
  time : Int
  kind : Int
  a : Int
  b : Int
  c : Int
  d : Int
  e : Int
  f : Int
deriving DecidableEq
structure EvIn (x : Evt) : Prop where
  id : W64 x.id
  time : W64 x.time
  kind : W64 x.kind
  a : W64 x.a
  b : W64 x.b
  c : W64 x.c
  d : W64 x.d
  e : W64 x.e
  f : W64 x.f
def tab : List Int := [-1, 6, 1, 2, 1, 2, 1, 1, 1, 3, 2, 1, 1, 2, 3, 1, 1, 1, 2, 3, 1, 3, 3, 3, 3, 1, 2, 2, 3, 2, 1, 0]
/-- P14.1 -/
def fields (k : Int) : Int := if k < 1 ∨ 31 < k then -1 else tab.getD k.toNat (-1)
def command (k : Int) : Bool := decide (3 ≤ k) && decide (k ≤ 18)
def closing (k : Int) : Bool := (decide (15 ≤ k) && decide (k ≤ 18)) || decide (k = 30) || decide (k = 31)
theorem tab_in : ∀ n : Nat, n < 32 → -1 ≤ tab.getD n (-1) ∧ tab.getD n (-1) ≤ 6 := by decide
theorem fields_in (k : Int) : -1 ≤ fields k ∧ fields k ≤ 6 := by
  unfold fields
  split
  · exact ⟨by omega, by omega⟩
  · exact tab_in _ (by omega)
def nums (x : Evt) : List Int := [x.a, x.b, x.c, x.d, x.e, x.f]
/-- what a kind's k'th number may be -/
def span (kind : Int) (k : Nat) : Int × Int :=
  if (k = 0 ∧ (kind = 1 ∨ kind = 3 ∨ kind = 5 ∨ kind = 19 ∨ kind = 21)) ∨ (k = 1 ∧ kind = 9) then (0, 7)
  else if (k = 0 ∧ (kind = 2 ∨ (6 ≤ kind ∧ kind ≤ 9) ∨ (12 ≤ kind ∧ kind ≤ 14) ∨ (22 ≤ kind ∧ kind ≤ 29))) ∨ (k = 2 ∧ 22 ≤ kind ∧ kind ≤ 24) ∨ (k = 1 ∧ (kind = 18 ∨ kind = 26)) then (1, 9223372036854775807)
  else if (kind = 1 ∧ 2 ≤ k) ∨ (k = 0 ∧ (kind = 4 ∨ kind = 20)) ∨ (k = 2 ∧ (kind = 19 ∨ kind = 21)) then (0, 9223372036854775807)
  else if kind = 10 ∧ k = 0 then (0, 3)
  else if kind = 14 ∧ k = 2 then (0, 1)
  else if kind = 24 ∧ k = 1 then (1, 4)
  else if kind = 28 ∧ k = 2 then (0, 4)
  else (-9223372036854775808, 9223372036854775807)
def numB (kind : Int) (k : Nat) (v : Int) : Bool := if (k : Int) < fields kind then decide ((span kind k).1 ≤ v) && decide (v ≤ (span kind k).2) else decide (v = 0)
/-- P14.2 -/
def validB (x : Evt) : Bool :=
  decide (0 ≤ fields x.kind) && decide (1 ≤ x.id) && decide (x.id ≤ 256) && decide (0 ≤ x.time) && decide (x.time ≤ 1099511627776) &&
  (numB x.kind 0 x.a && numB x.kind 1 x.b && numB x.kind 2 x.c && numB x.kind 3 x.d && numB x.kind 4 x.e && numB x.kind 5 x.f)
def putV (d : Int) : Dat := Cd.putU d.toNat
def putI (a : Int) : Dat := Cd.putU (Cd.zig a)
def many (x : Evt) : Nat := (fields x.kind).toNat
def load (x : Evt) : Dat := putV x.id ++ putV x.time ++ putV x.kind ++ ((nums x).take (many x)).flatMap putI
/-- P14.3 -/
def enc (x : Evt) : Dat × Nat := if validB x = true then (load x, 0) else ([], 54)
theorem valid_at {x : Evt} (h : validB x = true) : 0 ≤ fields x.kind ∧ 1 ≤ x.id ∧ x.id ≤ 256 ∧ 0 ≤ x.time ∧ x.time ≤ 1099511627776 ∧ numB x.kind 0 x.a = true ∧ numB x.kind 1 x.b = true ∧ numB x.kind 2 x.c = true ∧ numB x.kind 3 x.d = true ∧ numB x.kind 4 x.e = true ∧ numB x.kind 5 x.f = true := by
  unfold validB at h
  simp only [Bool.and_eq_true, decide_eq_true_eq] at h
  obtain ⟨⟨⟨⟨⟨h1, h2⟩, h3⟩, h4⟩, h5⟩, ⟨⟨⟨⟨⟨n0, n1⟩, n2⟩, n3⟩, n4⟩, n5⟩⟩ := h
  exact ⟨h1, h2, h3, h4, h5, n0, n1, n2, n3, n4, n5⟩
theorem kind_in {k : Int} (h : 0 ≤ fields k) : 1 ≤ k ∧ k ≤ 31 := by
  unfold fields at h
  split at h
  · omega
  · omega
theorem numB_zero {kind : Int} {k : Nat} {v : Int} (h : numB kind k v = true) (hk : ¬ (k : Int) < fields kind) : v = 0 := by
  unfold numB at h
  rw [if_neg hk] at h
  simpa using h

/-! where a reader stands, and what was wrong first -/
abbrev RS : Type := Nat × Nat
def rdV (l : Dat) (s : RS) : Nat × RS :=
  if s.2 ≠ 0 then (0, s) else if (Cd.takeU (l.drop s.1)).2.2 ≠ 0 then (0, (s.1, (Cd.takeU (l.drop s.1)).2.2))
  else if 4611686018427387904 < (Cd.takeU (l.drop s.1)).1 then (0, (s.1, 54)) else ((Cd.takeU (l.drop s.1)).1, (s.1 + (Cd.takeU (l.drop s.1)).2.1, 0))
def rdI (l : Dat) (s : RS) : Int × RS :=
  if s.2 ≠ 0 then (0, s) else if (Cd.takeU (l.drop s.1)).2.2 ≠ 0 then (0, (s.1, (Cd.takeU (l.drop s.1)).2.2))
  else (Cd.unzig (Cd.takeU (l.drop s.1)).1, (s.1 + (Cd.takeU (l.drop s.1)).2.1, 0))
structure Rd {α : Type} (P : Dat → RS → α × RS) (put : α → Dat) (ok : α → Prop) : Prop where
  stuck : ∀ l s, s.2 ≠ 0 → (P l s).2 = s
  le : ∀ l s, s.1 ≤ l.length → (P l s).2.1 ≤ l.length
  sound : ∀ l s, s.1 ≤ l.length → (P l s).2.2 = 0 → s.2 = 0 ∧ l.drop s.1 = put (P l s).1 ++ l.drop (P l s).2.1 ∧ ok (P l s).1
  whole : ∀ l n a x, ok a → l.drop n = put a ++ x → P l (n, 0) = (a, (n + (put a).length, 0))
theorem Rd.well {α : Type} {P : Dat → RS → α × RS} {put : α → Dat} {ok : α → Prop} (h : Rd P put ok) (l : Dat) (s : RS) (hz : (P l s).2.2 = 0) : s.2 = 0 := by
  by_cases h0 : s.2 = 0
  · exact h0
  · rw [h.stuck l s h0] at hz
    exact absurd hz h0
theorem drop_next {l : Dat} {n : Nat} {a x : Dat} (h : l.drop n = a ++ x) : l.drop (n + a.length) = x := by
  rw [← List.drop_drop, h, List.drop_left' rfl]
theorem rdV_rd : Rd rdV Cd.putU (fun a => a ≤ 4611686018427387904) where
  stuck l s h := by simp only [rdV]; rw [if_pos h]
  le l s h := by
    have hk := (Cd.takeU_ok (l.drop s.1)).2.2.1
    rw [List.length_drop] at hk
    simp only [rdV]
    split
    · exact h
    · split
      · exact h
      · split
        · exact h
        · simp only; omega
  sound l s hl h := by
    simp only [rdV] at h ⊢
    split at h
    · rename_i h0; exact absurd h h0
    · rename_i h0
      split at h
      · rename_i h1; exact absurd h h1
      · rename_i h1
        split at h
        · cases h
        · rename_i h2
          rw [if_neg h0, if_neg h1, if_neg h2]
          refine ⟨by simpa using h0, ?_, by simp only; omega⟩
          have hc := Cd.takeU_canon (l := l.drop s.1) (n := (Cd.takeU (l.drop s.1)).1) (k := (Cd.takeU (l.drop s.1)).2.1) (by rw [show (0 : Nat) = (Cd.takeU (l.drop s.1)).2.2 by omega])
          rw [List.drop_drop] at hc
          exact hc
  whole l n a x ha h := by
    simp only [rdV]
    rw [h, Cd.takeU_putU a x (by omega)]
    simp only [ne_eq, not_true_eq_false, if_false]
    rw [if_neg (by omega)]
theorem rdI_rd : Rd rdI putI W64 where
  stuck l s h := by simp only [rdI]; rw [if_pos h]
  le l s h := by
    have hk := (Cd.takeU_ok (l.drop s.1)).2.2.1
    rw [List.length_drop] at hk
    simp only [rdI]
    split
    · exact h
    · split
      · exact h
      · simp only; omega
  sound l s hl h := by
    simp only [rdI] at h ⊢
    split at h
    · rename_i h0; exact absurd h h0
    · rename_i h0
      split at h
      · rename_i h1; exact absurd h h1
      · rename_i h1
        rw [if_neg h0, if_neg h1]
        have ho := (Cd.takeU_ok (l.drop s.1)).1
        have hz : ∀ n : Nat, n < 18446744073709551616 → Cd.zig (Cd.unzig n) = n ∧ W64 (Cd.unzig n) := fun n hn => by
          unfold Cd.zig Cd.unzig W64
          by_cases hd : n % 2 = 1
          · rw [if_pos hd, if_neg (by omega)]
            exact ⟨by omega, by omega, by omega⟩
          · rw [if_neg hd, if_pos (by omega)]
            exact ⟨by omega, by omega, by omega⟩
        obtain ⟨z1, z2⟩ := hz _ ho
        refine ⟨by simpa using h0, ?_, z2⟩
        have hc := Cd.takeU_canon (l := l.drop s.1) (n := (Cd.takeU (l.drop s.1)).1) (k := (Cd.takeU (l.drop s.1)).2.1) (by rw [show (0 : Nat) = (Cd.takeU (l.drop s.1)).2.2 by omega])
        rw [List.drop_drop] at hc
        unfold putI
        simp only
        rw [z1]
        exact hc
  whole l n a x ha h := by
    simp only [rdI]
    unfold putI at h ⊢
    rw [h, Cd.takeU_putU _ x (Cd.zig_lt a ha.1 ha.2), Cd.unzig_zig]
    simp
/-- so many numbers, up to the first that is refused -/
def rdNs (l : Dat) : Nat → List Int → RS → List Int × RS
  | 0, L, s => (L, s)
  | k + 1, L, s => if s.2 ≠ 0 then (L, s) else rdNs l k (L ++ [(rdI l s).1]) (rdI l s).2
theorem rdNs_stuck (l : Dat) (k : Nat) (L : List Int) (s : RS) (h : s.2 ≠ 0) : rdNs l k L s = (L, s) := by
  cases k with
  | zero => rfl
  | succ k => rw [rdNs, if_pos h]
theorem rdNs_le (l : Dat) : ∀ (k : Nat) (L : List Int) (s : RS), s.1 ≤ l.length → (rdNs l k L s).2.1 ≤ l.length
  | 0, L, s, h => h
  | k + 1, L, s, h => by
    rw [rdNs]
    split
    · exact h
    · exact rdNs_le l k _ _ (rdI_rd.le l s h)
theorem rdNs_sound (l : Dat) : ∀ (k : Nat) (L : List Int) (s : RS), s.1 ≤ l.length → (rdNs l k L s).2.2 = 0 →
    s.2 = 0 ∧ ∃ V : List Int, (rdNs l k L s).1 = L ++ V ∧ V.length = k ∧ (∀ v ∈ V, W64 v) ∧ l.drop s.1 = V.flatMap putI ++ l.drop (rdNs l k L s).2.1
  | 0, L, s, hl, h => ⟨h, [], by simp [rdNs], rfl, fun v hv => (by cases hv), by simp [rdNs]⟩
  | k + 1, L, s, hl, h => by
    by_cases h0 : s.2 = 0
    · rw [rdNs, if_neg (by simpa using h0)] at h ⊢
      obtain ⟨hz, V, h1, h2, h3, h4⟩ := rdNs_sound l k _ _ (rdI_rd.le l s hl) h
      obtain ⟨_, s2, s3⟩ := rdI_rd.sound l s hl hz
      refine ⟨h0, (rdI l s).1 :: V, by rw [h1]; simp, by simp [h2], fun v hv => ?_, ?_⟩
      · rcases List.mem_cons.1 hv with rfl | hv
        · exact s3
        · exact h3 v hv
      · rw [s2, h4, List.flatMap_cons, List.append_assoc]
    · rw [rdNs_stuck l _ L s h0] at h
      exact absurd h h0
theorem rdNs_whole (l : Dat) : ∀ (V L : List Int) (n : Nat) (x : Dat), (∀ v ∈ V, W64 v) → l.drop n = V.flatMap putI ++ x → rdNs l V.length L (n, 0) = (L ++ V, (n + (V.flatMap putI).length, 0))
  | [], L, n, x, hV, h => by simp [rdNs]
  | v :: V, L, n, x, hV, h => by
    rw [List.flatMap_cons, List.append_assoc] at h
    have h1 := rdI_rd.whole l n v _ (hV v (by simp)) h
    rw [List.length_cons, rdNs, if_neg (by simp), h1]
    simp only
    rw [rdNs_whole l V _ _ x (fun v hv => hV v (by simp [hv])) (drop_next h)]
    simp [List.append_assoc, Nat.add_assoc]
def mk (i t k : Int) (V : List Int) : Evt := ⟨i, t, k, V.getD 0 0, V.getD 1 0, V.getD 2 0, V.getD 3 0, V.getD 4 0, V.getD 5 0⟩
theorem nums_mk (i t k : Int) (V : List Int) (h : V.length ≤ 6) : (nums (mk i t k V)).take V.length = V := by
  match V, h with
  | [], _ => rfl
  | [a], _ => rfl
  | [a, b], _ => rfl
  | [a, b, c], _ => rfl
  | [a, b, c, d], _ => rfl
  | [a, b, c, d, e], _ => rfl
  | [a, b, c, d, e, f], _ => rfl
  | _ :: _ :: _ :: _ :: _ :: _ :: _ :: _, h => simp at h
theorem mk_nums {x : Evt} (h : validB x = true) : mk x.id x.time x.kind ((nums x).take (many x)) = x := by
  obtain ⟨h0, _, _, _, _, n0, n1, n2, n3, n4, n5⟩ := valid_at h
  have hf := (fields_in x.kind).2
  obtain ⟨m, hm⟩ : ∃ m : Nat, fields x.kind = (m : Int) := ⟨(fields x.kind).toNat, by omega⟩
  have z0 := numB_zero n0
  have z1 := numB_zero n1
  have z2 := numB_zero n2
  have z3 := numB_zero n3
  have z4 := numB_zero n4
  have z5 := numB_zero n5
  have hmm : many x = m := by unfold many; omega
  rw [hm] at z0 z1 z2 z3 z4 z5 hf
  rw [hmm]
  obtain ⟨i, t, k, a, b, c, d, e, f⟩ := x
  simp only at z0 z1 z2 z3 z4 z5
  have hm6 : m ≤ 6 := by omega
  match m, hm6 with
  | 0, _ => simp [mk, nums, z0 (by omega), z1 (by omega), z2 (by omega), z3 (by omega), z4 (by omega), z5 (by omega)]
  | 1, _ => simp [mk, nums, z1 (by omega), z2 (by omega), z3 (by omega), z4 (by omega), z5 (by omega)]
  | 2, _ => simp [mk, nums, z2 (by omega), z3 (by omega), z4 (by omega), z5 (by omega)]
  | 3, _ => simp [mk, nums, z3 (by omega), z4 (by omega), z5 (by omega)]
  | 4, _ => simp [mk, nums, z4 (by omega), z5 (by omega)]
  | 5, _ => simp [mk, nums, z5 (by omega)]
  | 6, _ => simp [mk, nums]
def zero : Evt := ⟨0, 0, 0, 0, 0, 0, 0, 0, 0⟩
def eI (l : Dat) : Nat × RS := rdV l (0, 0)
def eT (l : Dat) : Nat × RS := rdV l (eI l).2
def eK (l : Dat) : Nat × RS := rdV l (eT l).2
def eN (l : Dat) : List Int × RS := rdNs l (fields ((eK l).1 : Int)).toNat [] (eK l).2
def eX (l : Dat) : Evt := mk (eI l).1 (eT l).1 (eK l).1 (eN l).1
/-- P14.3 -/
def dec (l : Dat) : Evt × Nat × Nat :=
  if (eK l).2.2 ≠ 0 then (zero, 0, (eK l).2.2)
  else if fields ((eK l).1 : Int) < 0 then (zero, 0, 54)
  else if (eN l).2.2 ≠ 0 then (zero, 0, (eN l).2.2)
  else if validB (eX l) = true then (eX l, (eN l).2.1, 0) else (zero, 0, 54)
/-- what is read is what was written, and all of it -/
theorem dec_sound {l : Dat} (h : (dec l).2.2 = 0) : validB (dec l).1 = true ∧ EvIn (dec l).1 ∧ (dec l).2.1 ≤ l.length ∧ l = load (dec l).1 ++ l.drop (dec l).2.1 := by
  unfold dec at h ⊢
  split at h
  · rename_i h1; exact absurd h h1
  · rename_i h1
    split at h
    · cases h
    · rename_i h2
      split at h
      · rename_i h3; exact absurd h h3
      · rename_i h3
        split at h
        · rename_i h4
          rw [if_neg h1, if_neg h2, if_neg h3, if_pos h4]
          simp only
          have z3 : (eN l).2.2 = 0 := by omega
          have l1 : (eI l).2.1 ≤ l.length := rdV_rd.le l (0, 0) (Nat.zero_le _)
          have l2 : (eT l).2.1 ≤ l.length := rdV_rd.le l _ l1
          have l3 : (eK l).2.1 ≤ l.length := rdV_rd.le l _ l2
          have l4 : (eN l).2.1 ≤ l.length := rdNs_le l _ _ _ l3
          obtain ⟨k0, V, v1, v2, v3, v4⟩ := rdNs_sound l _ _ _ l3 z3
          obtain ⟨t0, t1, t2⟩ := rdV_rd.sound l (eT l).2 l2 k0
          obtain ⟨i0, i1, i2⟩ := rdV_rd.sound l (eI l).2 l1 t0
          obtain ⟨_, o1, o2⟩ := rdV_rd.sound l (0, 0) (Nat.zero_le _) i0
          change l.drop (eT l).2.1 = Cd.putU (eK l).1 ++ l.drop (eK l).2.1 at t1
          change l.drop (eI l).2.1 = Cd.putU (eT l).1 ++ l.drop (eT l).2.1 at i1
          change l.drop 0 = Cd.putU (eI l).1 ++ l.drop (eI l).2.1 at o1
          change l.drop (eK l).2.1 = V.flatMap putI ++ l.drop (eN l).2.1 at v4
          change (eN l).1 = [] ++ V at v1
          change (eK l).1 ≤ _ at t2
          change (eT l).1 ≤ _ at i2
          change (eI l).1 ≤ _ at o2
          rw [List.nil_append] at v1
          have hf := fields_in ((eK l).1 : Int)
          have hV6 : V.length ≤ 6 := by omega
          have hX : eX l = mk (eI l).1 (eT l).1 (eK l).1 V := by unfold eX; rw [v1]
          have hg : ∀ k, W64 (V.getD k 0) := fun k => by
            by_cases hk : k < V.length
            · rw [List.getD_eq_getElem?_getD, List.getElem?_eq_getElem hk]; exact v3 _ (List.getElem_mem hk)
            · rw [List.getD_eq_getElem?_getD, List.getElem?_eq_none (by omega)]; exact ⟨by show (-9223372036854775808 : Int) ≤ 0; omega, by show (0 : Int) ≤ 9223372036854775807; omega⟩
          refine ⟨h4, by rw [hX]; exact ⟨⟨by show (-9223372036854775808 : Int) ≤ ((eI l).1 : Int); omega, by show ((eI l).1 : Int) ≤ 9223372036854775807; omega⟩, ⟨by show (-9223372036854775808 : Int) ≤ ((eT l).1 : Int); omega, by show ((eT l).1 : Int) ≤ 9223372036854775807; omega⟩, ⟨by show (-9223372036854775808 : Int) ≤ ((eK l).1 : Int); omega, by show ((eK l).1 : Int) ≤ 9223372036854775807; omega⟩, hg 0, hg 1, hg 2, hg 3, hg 4, hg 5⟩, l4, ?_⟩
          have hL : load (eX l) = Cd.putU (eI l).1 ++ Cd.putU (eT l).1 ++ Cd.putU (eK l).1 ++ V.flatMap putI := by
            have hn : many (mk (eI l).1 (eT l).1 (eK l).1 V) = V.length := by rw [v2]; rfl
            rw [hX]
            unfold load
            rw [hn, nums_mk _ _ _ V hV6]
            rfl
          rw [hL]
          have : l = l.drop 0 := rfl
          conv => lhs; rw [this, o1, i1, t1, v4]
          simp only [List.append_assoc]
        · cases h
/-- what was written is read, whatever stands behind it -/
theorem dec_load {x : Evt} (h : validB x = true) (hI : EvIn x) (more : Dat) : dec (load x ++ more) = (x, (load x).length, 0) := by
  obtain ⟨h0, i1, i2, t1, t2, _⟩ := valid_at h
  obtain ⟨k1, k2⟩ := kind_in h0
  have e0 : (load x ++ more).drop 0 = Cd.putU x.id.toNat ++ (Cd.putU x.time.toNat ++ (Cd.putU x.kind.toNat ++ (((nums x).take (many x)).flatMap putI ++ more))) := by
    rw [List.drop_zero]; unfold load putV; simp only [List.append_assoc]
  have r1 := rdV_rd.whole _ 0 x.id.toNat _ (by omega) e0
  have e1 := drop_next e0
  have r2 := rdV_rd.whole _ _ x.time.toNat _ (by omega) e1
  have e2 := drop_next e1
  have r3 := rdV_rd.whole _ _ x.kind.toNat _ (by omega) e2
  have e3 := drop_next e2
  have hn : ((nums x).take (many x)).length = many x := by
    have hf := fields_in x.kind
    rw [List.length_take]
    unfold many nums
    simp only [List.length_cons, List.length_nil]
    omega
  have hw : ∀ v ∈ (nums x).take (many x), W64 v := fun v hv => by
    have := List.mem_of_mem_take hv
    unfold nums at this
    simp only [List.mem_cons, List.not_mem_nil, or_false] at this
    rcases this with rfl | rfl | rfl | rfl | rfl | rfl
    · exact hI.a
    · exact hI.b
    · exact hI.c
    · exact hI.d
    · exact hI.e
    · exact hI.f
  have r4 := rdNs_whole _ ((nums x).take (many x)) [] _ more hw e3
  rw [hn, List.nil_append] at r4
  have q1 := (show eI (load x ++ more) = rdV (load x ++ more) (0, 0) from rfl).trans r1
  have q2 := (show eT (load x ++ more) = rdV (load x ++ more) (0 + (Cd.putU x.id.toNat).length, 0) by unfold eT; rw [q1]).trans r2
  have q3 := (show eK (load x ++ more) = rdV (load x ++ more) (0 + (Cd.putU x.id.toNat).length + (Cd.putU x.time.toNat).length, 0) by unfold eK; rw [q2]).trans r3
  have hkk : ((x.kind.toNat : Nat) : Int) = x.kind := by omega
  have q4 := (show eN (load x ++ more) = rdNs (load x ++ more) (many x) [] (0 + (Cd.putU x.id.toNat).length + (Cd.putU x.time.toNat).length + (Cd.putU x.kind.toNat).length, 0) by unfold eN many; rw [q3]; simp only; rw [hkk]).trans r4
  have q5 : eX (load x ++ more) = x := by
    unfold eX
    rw [q1, q2, q3, q4]
    simp only
    rw [hkk, show ((x.id.toNat : Nat) : Int) = x.id by omega, show ((x.time.toNat : Nat) : Int) = x.time by omega, mk_nums h]
  have hlen : (load x).length = 0 + (Cd.putU x.id.toNat).length + (Cd.putU x.time.toNat).length + (Cd.putU x.kind.toNat).length + (((nums x).take (many x)).flatMap putI).length := by
    unfold load putV
    simp only [List.length_append]
    omega
  unfold dec
  rw [q5, q4, q3]
  simp only
  rw [hkk, if_neg (by simp), if_neg (by omega), if_neg (by simp), if_pos h, hlen]
theorem dec_enc {x : Evt} (h : validB x = true) (hI : EvIn x) : dec (load x) = (x, (load x).length, 0) := by
  have := dec_load h hI []
  rwa [List.append_nil] at this
/-- where an event ends, its bytes end -/
theorem dec_len {l : Dat} (h : (dec l).2.2 = 0) : (dec l).2.1 = (load (dec l).1).length := by
  obtain ⟨h1, h2, h3, h4⟩ := dec_sound h
  have hd := dec_load h1 h2 (l.drop (dec l).2.1)
  rw [← h4] at hd
  rw [hd]
/-- P14.6: no event's bytes are the beginning of another one's -/
theorem dec_cut {x : Evt} (h : validB x = true) (hI : EvIn x) {k : Nat} (hk : k < (load x).length) : (dec ((load x).take k)).2.2 ≠ 0 := fun h0 => by
  obtain ⟨h1, h2, h3, h4⟩ := dec_sound h0
  generalize hy : (dec ((load x).take k)).1 = y at *
  generalize (dec ((load x).take k)).2.1 = n at *
  have e : load x = load y ++ (((load x).take k).drop n ++ (load x).drop k) := by
    conv => lhs; rw [← List.take_append_drop k (load x)]
    conv => lhs; lhs; rw [h4]
    rw [List.append_assoc]
  have d1 := dec_load h1 h2 (((load x).take k).drop n ++ (load x).drop k)
  rw [← e, dec_enc h hI] at d1
  have hxy : x = y := congrArg (·.1) d1
  have hl := congrArg List.length h4
  rw [List.length_append, List.length_take, ← hxy] at hl
  omega
end Ev
end Go.Proofs.Ytdaafledkloegaa

/-
  Plain mathematics of P14.4 to P14.6: rows of events. No program is named here.
-/
namespace Go.Proofs.Ytdaafledkloegaa
set_option linter.unusedVariables false
set_option linter.unusedSimpArgs false
namespace Ev
theorem putU_pos (n : Nat) : 0 < (Cd.putU n).length := by
  unfold Cd.putU
  split <;> simp
theorem load_pos (x : Evt) : 0 < (load x).length := by
  unfold load putV
  simp only [List.length_append]
  have := putU_pos x.id.toNat
  omega
theorem putU_le10 {n : Nat} (h : n < 18446744073709551616) : (Cd.putU n).length ≤ 10 := Cd.putU_len10 _ h
theorem flat_len (f : Int → Dat) (m : Nat) : ∀ (L : List Int), (∀ x ∈ L, (f x).length ≤ m) → (L.flatMap f).length ≤ m * L.length
  | [], h => by simp
  | x :: L, h => by
    have h1 := h x (by simp)
    have h2 := flat_len f m L (fun y hy => h y (by simp [hy]))
    rw [List.flatMap_cons, List.length_append, List.length_cons, Nat.mul_add]
    omega
theorem nums_in {x : Evt} (hI : EvIn x) : ∀ v ∈ nums x, W64 v := fun v hv => by
  unfold nums at hv
  simp only [List.mem_cons, List.not_mem_nil, or_false] at hv
  rcases hv with rfl | rfl | rfl | rfl | rfl | rfl
  · exact hI.a
  · exact hI.b
  · exact hI.c
  · exact hI.d
  · exact hI.e
  · exact hI.f
theorem load_len {x : Evt} (hI : EvIn x) : (load x).length ≤ 90 := by
  have h1 : (putV x.id).length ≤ 10 := putU_le10 (by have := hI.id.2; omega)
  have h2 : (putV x.time).length ≤ 10 := putU_le10 (by have := hI.time.2; omega)
  have h3 : (putV x.kind).length ≤ 10 := putU_le10 (by have := hI.kind.2; omega)
  have h4 := flat_len putI 10 ((nums x).take (many x)) (fun v hv => by
    have hv := nums_in hI v (List.mem_of_mem_take hv)
    exact putU_le10 (Cd.zig_lt v hv.1 hv.2))
  have h5 : ((nums x).take (many x)).length ≤ 6 := by rw [List.length_take]; exact Nat.min_le_right _ _
  unfold load
  simp only [List.length_append]
  omega
/-- P14.4 -/
def pack (L : List Evt) : Dat × Nat := if L.all validB = true then (L.flatMap load, 0) else ([], 54)
/-- how far Pack comes -/
def packGo : List Evt → Dat → Dat × Nat
  | [], s => (s, 0)
  | x :: L, s => if validB x = true then packGo L (s ++ load x) else ([], 54)
theorem packGo_eq : ∀ (L : List Evt) (s : Dat), packGo L s = if L.all validB = true then (s ++ L.flatMap load, 0) else ([], 54)
  | [], s => by simp [packGo]
  | x :: L, s => by
    rw [packGo]
    by_cases h : validB x = true
    · rw [if_pos h, packGo_eq L]
      simp [h, List.append_assoc]
    · rw [if_neg h, if_neg (by simp [h])]
theorem pack_eq (L : List Evt) : pack L = packGo L [] := by rw [packGo_eq]; rfl
def unpGo (l : Dat) : Nat → List Evt → Nat → List Evt × Nat × Nat
  | 0, out, at' => (out, 0, 0)
  | f + 1, out, at' => if at' < l.length then (if (dec (l.drop at')).2.2 ≠ 0 then ([], (dec (l.drop at')).2.2, at') else unpGo l f (out ++ [(dec (l.drop at')).1]) (at' + (dec (l.drop at')).2.1)) else (out, 0, 0)
def unpack (l : Dat) : List Evt × Nat × Nat := unpGo l (l.length + 1) [] 0
/-- an event that is read has bytes -/
theorem dec_pos {l : Dat} (h : (dec l).2.2 = 0) : 0 < (dec l).2.1 := by rw [dec_len h]; exact load_pos _
theorem dec_none : dec [] = (zero, 0, 1) ∨ (dec []).2.2 ≠ 0 := by
  refine .inr fun h => ?_
  obtain ⟨_, _, h3, _⟩ := dec_sound h
  have := dec_pos h
  simp at h3
  omega
/-- rows there and back -/
theorem unpGo_load (pre : Dat) : ∀ (L : List Evt) (f : Nat) (out : List Evt), (∀ x ∈ L, validB x = true ∧ EvIn x) → (L.flatMap load).length < f →
    unpGo (pre ++ L.flatMap load) f out pre.length = (out ++ L, 0, 0) := by
  intro L
  induction L generalizing pre with
  | nil =>
    intro f out hL hf
    match f, hf with
    | f + 1, _ => rw [unpGo, if_neg (by simp)]; simp
  | cons x L ih =>
    intro f out hL hf
    have hx := hL x (by simp)
    have hp := load_pos x
    match f, hf with
    | f + 1, hf =>
      have hd : (pre ++ (x :: L).flatMap load).drop pre.length = load x ++ L.flatMap load := by rw [List.drop_left' rfl, List.flatMap_cons]
      have hr := dec_load hx.1 hx.2 (L.flatMap load)
      rw [List.flatMap_cons, List.length_append] at hf
      rw [unpGo, if_pos (by rw [List.flatMap_cons]; simp only [List.length_append]; omega), hd, hr, if_neg (by simp)]
      simp only
      have e1 : pre ++ (x :: L).flatMap load = (pre ++ load x) ++ L.flatMap load := by rw [List.flatMap_cons, List.append_assoc]
      have e2 : pre.length + (load x).length = (pre ++ load x).length := by rw [List.length_append]
      rw [e1, e2, ih (pre ++ load x) f (out ++ [x]) (fun y hy => hL y (by simp [hy])) (by omega)]
      simp
theorem unpack_pack {L : List Evt} (h : (pack L).2 = 0) (hI : ∀ x ∈ L, EvIn x) : unpack (pack L).1 = (L, 0, 0) := by
  unfold pack at h ⊢
  split at h
  · rename_i ha
    rw [if_pos ha]
    have := unpGo_load [] L ((L.flatMap load).length + 1) [] (fun x hx => ⟨List.all_eq_true.1 ha x hx, hI x hx⟩) (by omega)
    simpa [unpack] using this
  · cases h
/-- what a row of bytes says lies within what a word holds -/
theorem unpGo_in (l : Dat) : ∀ (f : Nat) (out : List Evt) (at' : Nat), (∀ x ∈ out, EvIn x) → ∀ x ∈ (unpGo l f out at').1, EvIn x
  | 0, out, at', h => h
  | f + 1, out, at', h => by
    rw [unpGo]
    split
    · split
      · intro x hx; cases hx
      · rename_i h1 h2
        refine unpGo_in l f _ _ (fun x hx => ?_)
        rcases List.mem_append.1 hx with hx | hx
        · exact h x hx
        · simp only [List.mem_singleton] at hx
          subst hx
          exact (dec_sound (by omega)).2.1
    · exact h
/-- no more events than bytes -/
theorem unpGo_len (l : Dat) : ∀ (f : Nat) (out : List Evt) (at' : Nat), out.length ≤ at' → at' ≤ l.length → (unpGo l f out at').1.length ≤ l.length
  | 0, out, at', h, h2 => Nat.le_trans h h2
  | f + 1, out, at', h, h2 => by
    rw [unpGo]
    split
    · split
      · simp
      · rename_i h1 h3
        have hp := dec_pos (l := l.drop at') (by omega)
        obtain ⟨_, _, hl, _⟩ := dec_sound (l := l.drop at') (by omega)
        rw [List.length_drop] at hl
        exact unpGo_len l f _ _ (by rw [List.length_append, List.length_singleton]; omega) (by omega)
    · exact Nat.le_trans h h2
/-- P14.5: is the kind one of these? -/
def hasB (ks : List Int) (k : Int) : Bool := ks.isEmpty || ks.contains k
/-- the places of those, from one on -/
def wantAt (L : List Evt) (ks : List Int) : Nat → Nat → List Nat
  | 0, i => []
  | n + 1, i => match L[i]? with
    | some x => if hasB ks x.kind = true then i :: wantAt L ks n (i + 1) else wantAt L ks n (i + 1)
    | none => []
def want (L : List Evt) (ks : List Int) : List Nat := wantAt L ks L.length 0
end Ev
end Go.Proofs.Ytdaafledkloegaa

/-
  Plain mathematics of chapter 15: which lists of events are histories. No program is named here.
-/
namespace Go.Proofs.Ytdaafledkloegaa
set_option linter.unusedVariables false
set_option linter.unusedSimpArgs false
namespace Gr
open Ev (Evt EvIn hasB validB command closing zero fields)
def ev (H : List Evt) (i : Nat) : Evt := H.getD i zero
/-- one of these, ahead of a place, names an Id -/
def namedB (H : List Evt) (tq : Nat) (id : Int) (ks : List Int) : Bool := (H.take tq).any fun x => hasB ks x.kind && decide (x.a = id)
/-- an Id is that of an event ahead of a place, of a kind -/
def isB (H : List Evt) (tq : Nat) (id k : Int) : Bool := decide (1 ≤ id) && (decide (id ≤ tq) && decide ((ev H (id - 1).toNat).kind = k))
/-- Words, 6. -/
def namesB (H : List Evt) (i : Nat) : Bool :=
  let x := ev H i
  let id := x.a
  if x.kind = 6 ∨ x.kind = 22 ∨ x.kind = 23 ∨ x.kind = 24 then isB H i id 3 && !namedB H i id [6, 22, 23, 24]
  else if x.kind = 7 then isB H i id 4 && !namedB H i id [7, 25]
  else if x.kind = 25 then isB H i id 4 && !namedB H i id [7, 25] && decide ((ev H (id - 1).toNat).a ≤ x.time)
  else if x.kind = 26 ∨ x.kind = 27 then isB H i id 5 && !namedB H i id [26, 27]
  else if x.kind = 28 then isB H i id 5 && namedB H i id [26] && !namedB H i id [28]
  else if x.kind = 8 then isB H i id 5 && !namedB H i id [8, 27, 28]
  else if x.kind = 9 then isB H i id 5
  else if x.kind = 29 then isB H i id 9 && !namedB H i id [29]
  else if x.kind = 12 ∨ x.kind = 13 then isB H i id 21 && !namedB H i id [12, 13]
  else if x.kind = 14 then isB H i id 21 && namedB H i id [12] && !namedB H i id [14]
  else true
/-- Words: may the event at a place stand there? -/
def mayB (H : List Evt) (i : Nat) : Bool :=
  let x := ev H i
  let y := ev H (i - 1)
  if validB x = false ∨ x.id ≠ (i : Int) + 1 ∨ (x.kind = 1 ∧ i ≠ 0) ∨ (x.kind ≠ 1 ∧ i = 0) then false
  else if i = 0 then true
  else if x.time < y.time ∨ closing y.kind = true ∨ (x.kind = 2 ∧ x.a ≠ (i : Int)) then false
  else if (command x.kind = true ∧ ¬ (x.kind = 16 ∧ x.a = -4)) ∧ ((y.kind ≠ 2 ∧ command y.kind = false) ∨ x.time ≠ y.time) then false
  else namesB H i
/-- the first place, of so many from one on, at which none may stand -/
def firstBad (H : List Evt) : Nat → Nat → Option Nat
  | i, 0 => none
  | i, n + 1 => if mayB H i = true then firstBad H (i + 1) n else some i
/-- P15.1 -/
def check (H : List Evt) : Nat × Nat := match firstBad H 0 H.length with | none => (0, 0) | some i => (52, i)
/-- by which kinds an event of a kind is over; none: it is nothing that is awaited -/
def endsOf (k : Int) : List Int := if k = 3 then [6, 22, 23, 24] else if k = 4 then [7, 25] else if k = 5 then [27, 28] else if k = 21 then [13, 14] else []
def openB (H : List Evt) (i : Nat) : Bool := !(endsOf (ev H i).kind).isEmpty && !namedB H H.length ((i : Int) + 1) (endsOf (ev H i).kind)
/-- P15.2 -/
def openN (H : List Evt) (n : Nat) : List Nat := (List.range n).filter (openB H)
def opn (H : List Evt) : List Nat × Nat := if (check H).1 ≠ 0 then ([], 52) else (openN H H.length, 0)
/-- P15.3 -/
def close (H : List Evt) : Int × Nat := if (check H).1 ≠ 0 then (0, 52) else if 0 < H.length ∧ closing (ev H (H.length - 1)).kind = true then ((H.length : Int) - 1, 0) else (-1, 0)
theorem firstBad_none {H : List Evt} : ∀ (n i : Nat), firstBad H i n = none ↔ ∀ j, i ≤ j → j < i + n → mayB H j = true
  | 0, i => ⟨fun _ j h1 h2 => by omega, fun _ => rfl⟩
  | n + 1, i => by
    rw [firstBad]
    by_cases h : mayB H i = true
    · rw [if_pos h, firstBad_none n (i + 1)]
      exact ⟨fun hj j h1 h2 => if e : j = i then e ▸ h else hj j (by omega) (by omega), fun hj j h1 h2 => hj j (by omega) (by omega)⟩
    · rw [if_neg h]
      exact ⟨fun h2 => (by cases h2), fun hj => absurd (hj i (Nat.le_refl _) (by omega)) h⟩
theorem firstBad_some {H : List Evt} {k : Nat} : ∀ (n i : Nat), firstBad H i n = some k → i ≤ k ∧ k < i + n ∧ mayB H k = false ∧ ∀ j, i ≤ j → j < k → mayB H j = true
  | 0, i, h => by cases h
  | n + 1, i, h => by
    rw [firstBad] at h
    by_cases hm : mayB H i = true
    · rw [if_pos hm] at h
      obtain ⟨h1, h2, h3, h4⟩ := firstBad_some n (i + 1) h
      exact ⟨by omega, by omega, h3, fun j h5 h6 => if e : j = i then e ▸ hm else h4 j (by omega) h6⟩
    · rw [if_neg hm] at h
      cases h
      exact ⟨Nat.le_refl _, by omega, by simpa using hm, fun j h1 h2 => by omega⟩
theorem check_ok {H : List Evt} : (check H).1 = 0 ↔ ∀ j, j < H.length → mayB H j = true := by
  unfold check
  cases h : firstBad H 0 H.length with
  | none =>
    have := (firstBad_none H.length 0).1 h
    exact ⟨fun _ j hj => this j (Nat.zero_le _) (by omega), fun _ => rfl⟩
  | some k =>
    obtain ⟨h1, h2, h3, _⟩ := firstBad_some H.length 0 h
    exact ⟨fun h0 => by simp at h0, fun hj => by rw [hj k (by omega)] at h3; cases h3⟩
theorem check_bad {H : List Evt} {k : Nat} (h : check H = (52, k)) : k < H.length ∧ mayB H k = false ∧ ∀ j, j < k → mayB H j = true := by
  unfold check at h
  cases hb : firstBad H 0 H.length with
  | none => rw [hb] at h; simp at h
  | some q =>
    rw [hb] at h
    simp only [Prod.mk.injEq, true_and] at h
    subst h
    obtain ⟨h1, h2, h3, h4⟩ := firstBad_some H.length 0 hb
    exact ⟨by omega, h3, fun j hj => h4 j (Nat.zero_le _) hj⟩
theorem check_cases (H : List Evt) : check H = (0, 0) ∨ ∃ k, check H = (52, k) := by
  unfold check
  cases firstBad H 0 H.length with
  | none => exact .inl rfl
  | some k => exact .inr ⟨k, rfl⟩
/-! what may stand hangs on what is ahead alone -/
theorem ev_take {H : List Evt} {k i : Nat} (h : i < k) : ev (H.take k) i = ev H i := by
  unfold ev
  rw [List.getD_eq_getElem?_getD, List.getD_eq_getElem?_getD, List.getElem?_take, if_pos h]
theorem namedB_take {H : List Evt} {k i : Nat} (h : i ≤ k) (id : Int) (ks : List Int) : namedB (H.take k) i id ks = namedB H i id ks := by
  unfold namedB
  rw [List.take_take, Nat.min_eq_left h]
theorem isB_take {H : List Evt} {k i : Nat} (h : i ≤ k) (id c : Int) : isB (H.take k) i id c = isB H i id c := by
  unfold isB
  by_cases h1 : 1 ≤ id
  · by_cases h2 : id ≤ i
    · rw [ev_take (by omega)]
    · simp [h2]
  · simp [h1]
theorem namesB_take {H : List Evt} {k i : Nat} (h : i < k) : namesB (H.take k) i = namesB H i := by
  have h1 : i ≤ k := Nat.le_of_lt h
  unfold namesB
  simp only [ev_take h, namedB_take h1, isB_take h1]
  by_cases ha : isB H i (ev H i).a 4 = true
  · have hb : ((ev H i).a - 1).toNat < k := by
      unfold isB at ha
      simp at ha
      omega
    rw [ev_take hb]
  · simp [ha]
theorem mayB_take {H : List Evt} {k i : Nat} (h : i < k) : mayB (H.take k) i = mayB H i := by
  unfold mayB
  simp only [ev_take h, namesB_take h]
  by_cases h0 : i = 0
  · simp [h0]
  · rw [ev_take (show i - 1 < k by omega)]
/-- P15.4: how a beginning is checked -/
theorem check_take (H : List Evt) (k : Nat) (hk : k ≤ H.length) : check (H.take k) = match check H with | (0, _) => (0, 0) | (_, n) => if k ≤ n then (0, 0) else (52, n) := by
  have hl : (H.take k).length = k := by rw [List.length_take]; omega
  rcases check_cases H with h | ⟨n, h⟩
  · rw [h]
    have h1 := check_ok.1 (show (check H).1 = 0 by rw [h])
    have h2 : (check (H.take k)).1 = 0 := check_ok.2 fun j hj => by rw [hl] at hj; rw [mayB_take hj]; exact h1 j (by omega)
    rcases check_cases (H.take k) with h3 | ⟨q, h3⟩
    · exact h3
    · rw [h3] at h2; cases h2
  · rw [h]
    obtain ⟨h1, h2, h3⟩ := check_bad h
    show check (H.take k) = if k ≤ n then (0, 0) else (52, n)
    by_cases hkn : k ≤ n
    · rw [if_pos hkn]
      have h4 : (check (H.take k)).1 = 0 := check_ok.2 fun j hj => by rw [hl] at hj; rw [mayB_take hj]; exact h3 j (by omega)
      rcases check_cases (H.take k) with h5 | ⟨q, h5⟩
      · exact h5
      · rw [h5] at h4; cases h4
    · rw [if_neg hkn]
      rcases check_cases (H.take k) with h5 | ⟨q, h5⟩
      · have := check_ok.1 (show (check (H.take k)).1 = 0 by rw [h5]) n (by rw [hl]; omega)
        rw [mayB_take (by omega), h2] at this
        cases this
      · obtain ⟨q1, q2, q3⟩ := check_bad h5
        rw [hl] at q1
        rw [mayB_take q1] at q2
        rw [h5]
        have : q = n := by
          rcases Nat.lt_trichotomy q n with h6 | h6 | h6
          · rw [h3 q h6] at q2; cases q2
          · exact h6
          · have := q3 n h6; rw [mayB_take (by omega), h2] at this; cases this
        rw [this]
/-- nothing follows what closes -/
theorem closed_last {H : List Evt} {k : Nat} (hk : 0 < k) (hl : k < H.length) (hm : mayB H k = true) : closing (ev H (k - 1)).kind = false := by
  unfold mayB at hm
  simp only at hm
  split at hm
  · cases hm
  · split at hm
    · omega
    · split at hm
      · cases hm
      · rename_i h
        cases hc : closing (ev H (k - 1)).kind with
        | false => rfl
        | true => exact absurd (.inr (.inl hc)) h
end Gr
end Go.Proofs.Ytdaafledkloegaa

/-
  Plain mathematics of chapter 15: what was awaited is awaited still, or was ended by just one event. No program is named here.
-/
namespace Go.Proofs.Ytdaafledkloegaa
set_option linter.unusedVariables false
set_option linter.unusedSimpArgs false
namespace Gr
open Ev (Evt EvIn hasB validB command closing zero fields)
theorem hasB_cons {ks : List Int} (h : ks ≠ []) (k : Int) : hasB ks k = ks.contains k := by
  unfold hasB
  cases ks with
  | nil => exact absurd rfl h
  | cons a r => simp
theorem named_iff {H : List Evt} {tq : Nat} {id : Int} {ks : List Int} (ht : tq ≤ H.length) : namedB H tq id ks = true ↔ ∃ j, j < tq ∧ hasB ks (ev H j).kind = true ∧ (ev H j).a = id := by
  unfold namedB
  rw [List.any_eq_true]
  constructor
  · rintro ⟨x, hx, h⟩
    obtain ⟨j, hj, rfl⟩ := List.getElem_of_mem hx
    rw [List.length_take] at hj
    have e : ev H j = (H.take tq)[j] := by
      unfold ev
      rw [List.getD_eq_getElem?_getD, List.getElem?_eq_getElem (show j < H.length by omega)]; simp
    simp only [Bool.and_eq_true, decide_eq_true_eq] at h
    exact ⟨j, by omega, by rw [e]; exact h.1, by rw [e]; exact h.2⟩
  · rintro ⟨j, hj, h1, h2⟩
    have hjl : j < (H.take tq).length := by rw [List.length_take]; omega
    have e : ev H j = (H.take tq)[j] := by
      unfold ev
      rw [List.getD_eq_getElem?_getD, List.getElem?_eq_getElem (show j < H.length by omega)]; simp
    refine ⟨_, List.getElem_mem hjl, ?_⟩
    rw [← e]
    simp [h1, h2]
theorem may_names {H : List Evt} {q : Nat} (h : mayB H q = true) (hk : (ev H q).kind ≠ 1) : namesB H q = true := by
  unfold mayB at h
  simp only at h
  split at h
  · cases h
  · rename_i h1
    split at h
    · rename_i h2
      exact absurd (.inr (.inr (.inr ⟨hk, h2⟩))) h1
    · split at h
      · cases h
      · split at h
        · cases h
        · exact h
/-- is it one of those that end what a kind awaits -/
def endB (H : List Evt) (i k : Nat) : Bool := decide ((ev H k).a = (i : Int) + 1) && (endsOf (ev H i).kind).contains (ev H k).kind
def endsN (H : List Evt) (i : Nat) : Nat → Nat
  | 0 => 0
  | n + 1 => endsN H i n + if endB H i n = true then 1 else 0
def awaitedB (k : Int) : Bool := (decide (3 ≤ k) && decide (k ≤ 5)) || decide (k = 21)
theorem awaited_iff (k : Int) : awaitedB k = !(endsOf k).isEmpty := by
  unfold awaitedB endsOf
  by_cases h3 : k = 3
  · subst h3; rfl
  · by_cases h4 : k = 4
    · subst h4; rfl
    · by_cases h5 : k = 5
      · subst h5; rfl
      · by_cases h21 : k = 21
        · subst h21; rfl
        · rw [if_neg h3, if_neg h4, if_neg h5, if_neg h21]
          simp; omega
theorem uniq {H : List Evt} (hc : ∀ j, j < H.length → mayB H j = true) {i p q : Nat} (hpq : p < q) (hq : q < H.length) (h1 : endB H i p = true) (h2 : endB H i q = true) : False := by
  unfold endB at h1 h2
  simp only [Bool.and_eq_true, decide_eq_true_eq] at h1 h2
  obtain ⟨a1, k1⟩ := h1
  obtain ⟨a2, k2⟩ := h2
  have N : ∀ r, r < H.length → (ev H r).kind ≠ 1 → namesB H r = true := fun r hr hk => may_names (hc r hr) hk
  have named : ∀ (t r : Nat) (ks : List Int), r < t → t ≤ H.length → hasB ks (ev H r).kind = true → (ev H r).a = (i : Int) + 1 → namedB H t ((i : Int) + 1) ks = true := fun t r ks h1 h2 h3 h4 => (named_iff h2).2 ⟨r, h1, h3, h4⟩
  unfold endsOf at k1 k2
  by_cases h3 : (ev H i).kind = 3
  · rw [if_pos h3] at k1 k2
    have hn := N q hq (by intro e; rw [e] at k2; simp at k2)
    have hx : (ev H q).kind = 6 ∨ (ev H q).kind = 22 ∨ (ev H q).kind = 23 ∨ (ev H q).kind = 24 := by simpa using k2
    unfold namesB at hn
    simp only at hn
    rw [if_pos hx, a2] at hn
    have := named q p [6, 22, 23, 24] hpq (by omega) (by rw [hasB_cons (by simp)]; exact k1) a1
    rw [this] at hn
    simp at hn
  · rw [if_neg h3] at k1 k2
    by_cases h4 : (ev H i).kind = 4
    · rw [if_pos h4] at k1 k2
      have hn := N q hq (by intro e; rw [e] at k2; simp at k2)
      have hx : (ev H q).kind = 7 ∨ (ev H q).kind = 25 := by simpa using k2
      have := named q p [7, 25] hpq (by omega) (by rw [hasB_cons (by simp)]; exact k1) a1
      unfold namesB at hn
      simp only at hn
      rw [a2, this] at hn
      rcases hx with hx | hx <;> (rw [hx] at hn; simp at hn)
    · rw [if_neg h4] at k1 k2
      by_cases h5 : (ev H i).kind = 5
      · rw [if_pos h5] at k1 k2
        have hp1 : (ev H p).kind = 27 ∨ (ev H p).kind = 28 := by simpa using k1
        have hq1 : (ev H q).kind = 27 ∨ (ev H q).kind = 28 := by simpa using k2
        have hnp := N p (by omega) (by rcases hp1 with h | h <;> rw [h] <;> decide)
        have hnq := N q hq (by rcases hq1 with h | h <;> rw [h] <;> decide)
        unfold namesB at hnp hnq
        simp only at hnp hnq
        rw [a1] at hnp
        rw [a2] at hnq
        rcases hq1 with hq1 | hq1
        · rw [hq1] at hnq
          rcases hp1 with hp1 | hp1
          · have := named q p [26, 27] hpq (by omega) (by rw [hp1]; decide) a1
            rw [this] at hnq; simp at hnq
          · rw [hp1] at hnp
            simp at hnp
            obtain ⟨r, hr, hr1, hr2⟩ := (named_iff (by omega)).1 hnp.1.2
            have hr3 : (ev H r).kind = 26 := by rw [hasB_cons (by simp)] at hr1; simpa using hr1
            have := named q r [26, 27] (by omega) (by omega) (by rw [hr3]; decide) hr2
            rw [this] at hnq; simp at hnq
        · rw [hq1] at hnq
          simp at hnq
          rcases hp1 with hp1 | hp1
          · rw [hp1] at hnp
            simp at hnp
            obtain ⟨r, hr, hr1, hr2⟩ := (named_iff (by omega)).1 hnq.1.2
            have hr3 : (ev H r).kind = 26 := by rw [hasB_cons (by simp)] at hr1; simpa using hr1
            rcases Nat.lt_trichotomy r p with h | h | h
            · have := named p r [26, 27] h (by omega) (by rw [hr3]; decide) hr2
              rw [this] at hnp; simp at hnp
            · rw [h, hp1] at hr3; cases hr3
            · have hnr := N r (by omega) (by rw [hr3]; decide)
              unfold namesB at hnr
              simp only at hnr
              rw [hr2, hr3] at hnr
              have := named r p [26, 27] h (by omega) (by rw [hp1]; decide) a1
              rw [this] at hnr; simp at hnr
          · have := named q p [28] hpq (by omega) (by rw [hp1]; decide) a1
            rw [this] at hnq; simp at hnq
      · rw [if_neg h5] at k1 k2
        by_cases h21 : (ev H i).kind = 21
        · rw [if_pos h21] at k1 k2
          have hp1 : (ev H p).kind = 13 ∨ (ev H p).kind = 14 := by simpa using k1
          have hq1 : (ev H q).kind = 13 ∨ (ev H q).kind = 14 := by simpa using k2
          have hnp := N p (by omega) (by rcases hp1 with h | h <;> rw [h] <;> decide)
          have hnq := N q hq (by rcases hq1 with h | h <;> rw [h] <;> decide)
          unfold namesB at hnp hnq
          simp only at hnp hnq
          rw [a1] at hnp
          rw [a2] at hnq
          rcases hq1 with hq1 | hq1
          · rw [hq1] at hnq
            rcases hp1 with hp1 | hp1
            · have := named q p [12, 13] hpq (by omega) (by rw [hp1]; decide) a1
              rw [this] at hnq; simp at hnq
            · rw [hp1] at hnp
              simp at hnp
              obtain ⟨r, hr, hr1, hr2⟩ := (named_iff (by omega)).1 hnp.1.2
              have hr3 : (ev H r).kind = 12 := by rw [hasB_cons (by simp)] at hr1; simpa using hr1
              have := named q r [12, 13] (by omega) (by omega) (by rw [hr3]; decide) hr2
              rw [this] at hnq; simp at hnq
          · rw [hq1] at hnq
            simp at hnq
            rcases hp1 with hp1 | hp1
            · rw [hp1] at hnp
              simp at hnp
              obtain ⟨r, hr, hr1, hr2⟩ := (named_iff (by omega)).1 hnq.1.2
              have hr3 : (ev H r).kind = 12 := by rw [hasB_cons (by simp)] at hr1; simpa using hr1
              rcases Nat.lt_trichotomy r p with h | h | h
              · have := named p r [12, 13] h (by omega) (by rw [hr3]; decide) hr2
                rw [this] at hnp; simp at hnp
              · rw [h, hp1] at hr3; cases hr3
              · have hnr := N r (by omega) (by rw [hr3]; decide)
                unfold namesB at hnr
                simp only at hnr
                rw [hr2, hr3] at hnr
                have := named r p [12, 13] h (by omega) (by rw [hp1]; decide) a1
                rw [this] at hnr; simp at hnr
            · have := named q p [14] hpq (by omega) (by rw [hp1]; decide) a1
              rw [this] at hnq; simp at hnq
        · rw [if_neg h21] at k1
          simp at k1
theorem ends_le {H : List Evt} (hc : ∀ j, j < H.length → mayB H j = true) (i : Nat) : ∀ n, n ≤ H.length → endsN H i n = 0 ∨ (endsN H i n = 1 ∧ ∃ p, p < n ∧ endB H i p = true)
  | 0, _ => .inl rfl
  | n + 1, h => by
    rw [endsN]
    by_cases hb : endB H i n = true
    · rw [if_pos hb]
      rcases ends_le hc i n (by omega) with h1 | ⟨h1, p, hp, hp2⟩
      · exact .inr ⟨by omega, n, by omega, hb⟩
      · exact absurd (uniq hc hp (by omega) hp2 hb) id
    · rw [if_neg hb]
      rcases ends_le hc i n (by omega) with h1 | ⟨h1, p, hp, hp2⟩
      · exact .inl h1
      · exact .inr ⟨h1, p, by omega, hp2⟩
theorem ends_zero {H : List Evt} {i : Nat} : ∀ n, endsN H i n = 0 ↔ ∀ k, k < n → endB H i k = false
  | 0 => ⟨fun _ k h => by omega, fun _ => rfl⟩
  | n + 1 => by
    rw [endsN]
    by_cases hb : endB H i n = true
    · rw [if_pos hb]
      exact ⟨fun h => by omega, fun h => by rw [h n (by omega)] at hb; cases hb⟩
    · rw [if_neg hb, Nat.add_zero, ends_zero n]
      exact ⟨fun h k hk => if e : k = n then (by rw [e]; simpa using hb) else h k (by omega), fun h k hk => h k (by omega)⟩
/-- what is open is awaited, and no event has ended it -/
theorem open_ends {H : List Evt} {i : Nat} : openB H i = (awaitedB (ev H i).kind && decide (endsN H i H.length = 0)) := by
  rw [awaited_iff]
  unfold openB
  cases he : (endsOf (ev H i).kind).isEmpty with
  | true => rfl
  | false =>
    simp only [Bool.not_false, Bool.true_and]
    have hne : endsOf (ev H i).kind ≠ [] := by intro h; rw [h] at he; cases he
    rw [Bool.eq_iff_iff, Bool.not_eq_true', ← Bool.not_eq_true, named_iff (Nat.le_refl _), decide_eq_true_eq, ends_zero]
    constructor
    · intro h k hk
      cases hb : endB H i k with
      | false => rfl
      | true =>
        unfold endB at hb
        simp only [Bool.and_eq_true, decide_eq_true_eq] at hb
        exact absurd ⟨k, hk, by rw [hasB_cons hne]; exact hb.2, hb.1⟩ h
    · rintro h ⟨k, hk, h1, h2⟩
      have := h k hk
      unfold endB at this
      rw [hasB_cons hne] at h1
      rw [h1, h2] at this
      simp at this
end Gr
end Go.Proofs.Ytdaafledkloegaa

/-
  Plain mathematics of chapter 15: how often one was named, and may an event stand behind those gone through, in the program's order of asking. No program is named here.
-/
namespace Go.Proofs.Ytdaafledkloegaa
set_option linter.unusedVariables false
set_option linter.unusedSimpArgs false
namespace Gr
open Ev (Evt EvIn hasB validB command closing zero fields W64)
/-- the kind of what one of a kind names -/
def about (k : Int) : Int := if k = 6 ∨ k = 22 ∨ k = 23 ∨ k = 24 then 3 else if k = 7 ∨ k = 25 then 4 else if k = 8 ∨ k = 9 ∨ k = 26 ∨ k = 27 ∨ k = 28 then 5 else if k = 29 then 9 else if k = 12 ∨ k = 13 ∨ k = 14 then 21 else 0
/-- one of these names an Id -/
def nmd (L : List Evt) (id : Int) (ks : List Int) : Bool := L.any fun x => hasB ks x.kind && decide (x.a = id)
/-- so often one of a kind names an Id -/
def cnt (L : List Evt) (k id : Int) : Nat := (L.filter fun x => decide (about x.kind ≠ 0) && (decide (x.kind = k) && decide (x.a = id))).length
theorem cnt_snoc (L : List Evt) (x : Evt) (k id : Int) : cnt (L ++ [x]) k id = cnt L k id + if about x.kind ≠ 0 ∧ x.kind = k ∧ x.a = id then 1 else 0 := by
  unfold cnt
  rw [List.filter_append, List.length_append]
  by_cases h : about x.kind ≠ 0 ∧ x.kind = k ∧ x.a = id
  · rw [if_pos h]
    have : (decide (about x.kind ≠ 0) && (decide (x.kind = k) && decide (x.a = id))) = true := by
      rw [decide_eq_true h.1, decide_eq_true h.2.1, decide_eq_true h.2.2]; rfl
    simp only [List.filter_cons, List.filter_nil, this]
    rfl
  · rw [if_neg h]
    have : (decide (about x.kind ≠ 0) && (decide (x.kind = k) && decide (x.a = id))) = false := by
      rw [Bool.eq_false_iff]; intro h2; simp at h2; exact h ⟨h2.1, h2.2.1, h2.2.2⟩
    simp only [List.filter_cons, List.filter_nil, this]
    rfl
theorem cnt_le (L : List Evt) (k id : Int) : cnt L k id ≤ L.length := List.length_filter_le _ _
theorem nmd_iff {L : List Evt} {id : Int} {ks : List Int} : nmd L id ks = true ↔ ∃ x ∈ L, hasB ks x.kind = true ∧ x.a = id := by
  unfold nmd
  rw [List.any_eq_true]
  constructor
  · rintro ⟨x, hx, h⟩
    simp at h
    exact ⟨x, hx, h.1, h.2⟩
  · rintro ⟨x, hx, h1, h2⟩
    exact ⟨x, hx, by simp [h1, h2]⟩
theorem cnt_nmd {L : List Evt} {k id : Int} (hk : about k ≠ 0) : decide (0 < cnt L k id) = nmd L id [k] := by
  rw [Bool.eq_iff_iff, nmd_iff]
  unfold cnt
  simp only [decide_eq_true_eq]
  rw [List.length_pos_iff_exists_mem]
  constructor
  · rintro ⟨x, hx⟩
    obtain ⟨h1, h2⟩ := List.mem_filter.1 hx
    simp at h2
    exact ⟨x, h1, by rw [hasB_cons (by simp)]; simp [h2.2.1], h2.2.2⟩
  · rintro ⟨x, hx, h1, h2⟩
    rw [hasB_cons (by simp)] at h1
    simp at h1
    refine ⟨x, List.mem_filter.2 ⟨hx, ?_⟩⟩
    rw [h1, h2]; simp; exact hk
theorem nmd_none {L : List Evt} {id : Int} {ks : List Int} (hks : ks ≠ []) (h : ∀ q (hq : q < ks.length), nmd L id [ks[q]] = false) : nmd L id ks = false := by
  rw [Bool.eq_false_iff]
  intro h1
  obtain ⟨x, hx, h2, h3⟩ := nmd_iff.1 h1
  rw [hasB_cons hks] at h2
  obtain ⟨q, hq, h4⟩ := List.getElem_of_mem (List.contains_iff_mem.1 h2)
  have h5 : nmd L id [ks[q]] = true := nmd_iff.2 ⟨x, hx, by rw [hasB_cons (by simp)]; simp [h4], h3⟩
  rw [h q hq] at h5
  cases h5
theorem nmd_some {L : List Evt} {id : Int} {ks : List Int} {q : Nat} (hq : q < ks.length) (h : nmd L id [ks[q]] = true) : nmd L id ks = true := by
  obtain ⟨x, hx, h2, h3⟩ := nmd_iff.1 h
  rw [hasB_cons (by simp)] at h2
  simp at h2
  exact nmd_iff.2 ⟨x, hx, by rw [hasB_cons (by intro h; rw [h] at hq; simp at hq)]; exact List.contains_iff_mem.2 (h2 ▸ List.getElem_mem hq), h3⟩
/-- an event's work is awaited still -/
def awB (L : List Evt) (x : Evt) : Bool := !(endsOf x.kind).isEmpty && !nmd L x.id (endsOf x.kind)
/-- the last one closes -/
def clB (L : List Evt) : Bool := decide (0 < L.length) && closing (ev L (L.length - 1)).kind
/-- may a command be made there? -/
def mdB (L : List Evt) (x : Evt) : Bool :=
  if command x.kind = true ∧ ¬ (x.kind = 16 ∧ x.a = -4) then decide (x.time = (ev L (L.length - 1)).time) && (decide ((ev L (L.length - 1)).kind = 2) || command (ev L (L.length - 1)).kind) else true
/-- may an event name one? -/
def mnB (L : List Evt) (x y : Evt) : Bool :=
  if x.kind = 6 ∨ x.kind = 22 ∨ x.kind = 23 ∨ x.kind = 24 ∨ x.kind = 7 then awB L y
  else if x.kind = 25 then awB L y && decide (y.a ≤ x.time)
  else if x.kind = 8 then awB L y && !nmd L x.a [8]
  else if x.kind = 26 ∨ x.kind = 27 then !nmd L x.a [26, 27]
  else if x.kind = 28 then nmd L x.a [26] && !nmd L x.a [28]
  else if x.kind = 29 then !nmd L x.a [29]
  else if x.kind = 12 ∨ x.kind = 13 then !nmd L x.a [12, 13]
  else if x.kind = 14 then nmd L x.a [12] && !nmd L x.a [14]
  else true
/-- may an event be named? -/
def nbB (L : List Evt) (x : Evt) : Bool :=
  if about x.kind = 0 then true
  else if (L.length : Int) < x.a then false
  else decide ((ev L (x.a - 1).toNat).kind = about x.kind) && mnB L x (ev L (x.a - 1).toNat)
/-- may an event stand behind those gone through? -/
def stB (L : List Evt) (x : Evt) : Bool :=
  if validB x = false ∨ x.id ≠ (L.length : Int) + 1 then false
  else if L.length = 0 then decide (x.kind = 1)
  else if x.kind = 1 ∨ x.time < (ev L (L.length - 1)).time ∨ clB L = true then false
  else if x.kind = 2 then decide (x.a = (L.length : Int))
  else mdB L x && nbB L x
theorem valid_names {x : Evt} (h : validB x = true) (hk : about x.kind ≠ 0) : 1 ≤ x.a := by
  have h0 := (Ev.valid_at h).2.2.2.2.2.1
  obtain ⟨xi, xt, xk, xa, xb, xc, xd, xe, xf⟩ := x
  simp only at *
  have hc : xk = 6 ∨ xk = 22 ∨ xk = 23 ∨ xk = 24 ∨ xk = 7 ∨ xk = 25 ∨ xk = 8 ∨ xk = 9 ∨ xk = 26 ∨ xk = 27 ∨ xk = 28 ∨ xk = 29 ∨ xk = 12 ∨ xk = 13 ∨ xk = 14 := by
    unfold about at hk
    omega
  unfold Ev.numB at h0
  rcases hc with rfl | rfl | rfl | rfl | rfl | rfl | rfl | rfl | rfl | rfl | rfl | rfl | rfl | rfl | rfl
  all_goals
    revert h0
    simp [fields, Ev.tab, Ev.span]
    try omega
theorem may_id {H : List Evt} {q : Nat} (h : mayB H q = true) : (ev H q).id = (q : Int) + 1 := by
  unfold mayB at h
  simp only at h
  split at h
  · cases h
  · rename_i hn
    have : ¬ (ev H q).id ≠ (q : Int) + 1 := fun e => hn (.inr (.inl e))
    omega
theorem nmd_8 (L : List Evt) (id : Int) : nmd L id [8, 27, 28] = (nmd L id [8] || nmd L id [27, 28]) := by
  rw [Bool.eq_iff_iff, Bool.or_eq_true, nmd_iff, nmd_iff, nmd_iff]
  constructor
  · rintro ⟨x, hx, h1, h2⟩
    rw [hasB_cons (by simp)] at h1
    simp at h1
    rcases h1 with h1 | h1
    · exact .inl ⟨x, hx, by rw [hasB_cons (by simp)]; simp [h1], h2⟩
    · exact .inr ⟨x, hx, by rw [hasB_cons (by simp)]; simp [h1], h2⟩
  · rintro (⟨x, hx, h1, h2⟩ | ⟨x, hx, h1, h2⟩)
    all_goals
      rw [hasB_cons (by simp)] at h1
      simp at h1
      exact ⟨x, hx, by rw [hasB_cons (by simp)]; simp [h1], h2⟩
theorem nb_names {H : List Evt} {n : Nat} (hn : n < H.length) (hc : ∀ j, j < n → mayB H j = true) (hv : validB (ev H n) = true) : nbB (H.take n) (ev H n) = namesB H n := by
  have hl : (H.take n).length = n := by rw [List.length_take]; omega
  have hv1 := fun h => valid_names hv h
  have hnm : ∀ id ks, namedB H n id ks = nmd (H.take n) id ks := fun _ _ => rfl
  unfold nbB namesB
  simp only [hl, hnm]
  generalize hx : ev H n = x at *
  by_cases hab : about x.kind = 0
  · rw [if_pos hab]
    obtain ⟨xi, xt, xk, xa, xb, xc, xd, xe, xf⟩ := x
    simp only at *
    have h3 : ¬ (xk = 6 ∨ xk = 22 ∨ xk = 23 ∨ xk = 24) ∧ ¬ xk = 7 ∧ ¬ xk = 25 ∧ ¬ (xk = 26 ∨ xk = 27) ∧ ¬ xk = 28 ∧ ¬ xk = 8 ∧ ¬ xk = 9 ∧ ¬ xk = 29 ∧ ¬ (xk = 12 ∨ xk = 13) ∧ ¬ xk = 14 := by
      unfold about at hab
      omega
    obtain ⟨g1, g2, g3, g4, g5, g6, g7, g8, g9, g10⟩ := h3
    rw [if_neg g1, if_neg g2, if_neg g3, if_neg g4, if_neg g5, if_neg g6, if_neg g7, if_neg g8, if_neg g9, if_neg g10]
  · rw [if_neg hab]
    have ha1 := hv1 hab
    by_cases ha2 : (n : Int) < x.a
    · rw [if_pos ha2]
      have hI : ∀ k, isB H n x.a k = false := fun k => by
        unfold isB
        rw [decide_eq_false (show ¬ x.a ≤ (n : Int) by omega)]
        simp
      simp only [hI, Bool.false_and]
      obtain ⟨xi, xt, xk, xa, xb, xc, xd, xe, xf⟩ := x
      simp only at *
      unfold about at hab
      repeat' split
      all_goals first | rfl | omega
    · rw [if_neg ha2]
      have hq : (x.a - 1).toNat < n := by omega
      have hid := may_id (hc _ hq)
      have hid2 : (ev H (x.a - 1).toNat).id = x.a := by omega
      have hI : ∀ k, isB H n x.a k = decide ((ev H (x.a - 1).toNat).kind = k) := fun k => by
        unfold isB
        rw [decide_eq_true (show x.a ≤ (n : Int) by omega), decide_eq_true ha1]
        simp
      simp only [hI, ev_take hq]
      clear hI hx hid
      generalize ev H (x.a - 1).toNat = y at *
      unfold mnB awB
      rw [hid2, nmd_8]
      generalize nmd (H.take n) = N at *
      obtain ⟨xi, xt, xk, xa, xb, xc, xd, xe, xf⟩ := x
      obtain ⟨yi, yt, yk, ya, yb, yc, yd, ye, yf⟩ := y
      simp only at *
      have hcs : xk = 6 ∨ xk = 22 ∨ xk = 23 ∨ xk = 24 ∨ xk = 7 ∨ xk = 25 ∨ xk = 8 ∨ xk = 9 ∨ xk = 26 ∨ xk = 27 ∨ xk = 28 ∨ xk = 29 ∨ xk = 12 ∨ xk = 13 ∨ xk = 14 := by
        unfold about at hab
        omega
      clear hv1 hv hab hc hnm
      rcases hcs with rfl | rfl | rfl | rfl | rfl | rfl | rfl | rfl | rfl | rfl | rfl | rfl | rfl | rfl | rfl
      all_goals
        simp only [about]
        try simp only [Int.reduceEq, or_self, or_false, false_or, or_true, true_or, if_true, if_false, reduceIte]
      all_goals first
        | rfl
        | (by_cases h3 : yk = 3
           · subst h3; simp [endsOf]; done
           · simp [h3])
        | (by_cases h3 : yk = 4
           · subst h3; simp [endsOf, Bool.and_assoc]; done
           · simp [h3])
        | (by_cases h3 : yk = 5
           · subst h3; simp [endsOf]; done
           · simp [h3])
        | (by_cases h3 : yk = 5
           · subst h3; simp [endsOf]; cases N xa [8] <;> cases N xa [27, 28] <;> rfl
           · simp [h3])
        | (simp [Bool.and_assoc]; done)
/-- the program's asking is the document's -/
theorem st_may {H : List Evt} {n : Nat} (hn : n < H.length) (hc : ∀ j, j < n → mayB H j = true) : stB (H.take n) (ev H n) = mayB H n := by
  have hl : (H.take n).length = n := by rw [List.length_take]; omega
  have hnb := fun h => nb_names hn hc h
  unfold stB mayB
  simp only [hl]
  generalize hx : ev H n = x at *
  by_cases h1 : validB x = false ∨ x.id ≠ (n : Int) + 1
  · rw [if_pos h1, if_pos (by rcases h1 with h | h; exact .inl h; exact .inr (.inl h))]
  · rw [if_neg h1]
    have hv : validB x = true := by
      cases h : validB x with
      | true => rfl
      | false => exact absurd (.inl h) h1
    rw [hnb hv]
    by_cases h0 : n = 0
    · rw [if_pos h0]
      by_cases hk : x.kind = 1
      · rw [if_neg (by
          rintro (h | h | h | h)
          · exact h1 (.inl h)
          · exact h1 (.inr h)
          · exact h.2 h0
          · exact h.1 hk), if_pos h0]
        simp [hk]
      · rw [if_pos (.inr (.inr (.inr ⟨hk, h0⟩)))]
        simp [hk]
    · rw [if_neg h0]
      have hy : ev (H.take n) (n - 1) = ev H (n - 1) := ev_take (by omega)
      have hcl : clB (H.take n) = closing (ev H (n - 1)).kind := by
        unfold clB
        rw [hl, hy, decide_eq_true (show 0 < n by omega)]; rfl
      rw [hcl]
      have hmd : mdB (H.take n) x = if command x.kind = true ∧ ¬ (x.kind = 16 ∧ x.a = -4) then decide (x.time = (ev H (n - 1)).time) && (decide ((ev H (n - 1)).kind = 2) || command (ev H (n - 1)).kind) else true := by
        unfold mdB; rw [hl, hy]
      rw [hy, hmd]
      clear hy hcl hmd
      generalize ev H (n - 1) = y at *
      by_cases hk : x.kind = 1
      · rw [if_pos (.inl hk), if_pos (.inr (.inr (.inl ⟨hk, h0⟩)))]
      · rw [if_neg (c := validB x = false ∨ x.id ≠ (n : Int) + 1 ∨ (x.kind = 1 ∧ n ≠ 0) ∨ (x.kind ≠ 1 ∧ n = 0)) (by
          rintro (h | h | h | h)
          · exact h1 (.inl h)
          · exact h1 (.inr h)
          · exact hk h.1
          · exact h0 h.2), if_neg h0]
        by_cases ht : x.time < y.time ∨ closing y.kind = true
        · rw [if_pos (.inr ht), if_pos (by rcases ht with h | h; exact .inl h; exact .inr (.inl h))]
        · rw [if_neg (by rintro (h | h); exact hk h; exact ht h)]
          by_cases h2 : x.kind = 2
          · rw [if_pos h2]
            have hcm : command x.kind = false := by rw [h2]; rfl
            have hnm : namesB H n = true := by
              simp [namesB, hx, h2]
            by_cases ha : x.a = (n : Int)
            · rw [if_neg (c := x.time < y.time ∨ closing y.kind = true ∨ (x.kind = 2 ∧ x.a ≠ (n : Int))) (by
                rintro (h | h | h)
                · exact ht (.inl h)
                · exact ht (.inr h)
                · exact h.2 ha), if_neg (by rw [hcm]; simp), hnm]
              simp [ha]
            · rw [if_pos (.inr (.inr ⟨h2, ha⟩))]
              simp [ha]
          · rw [if_neg h2, if_neg (c := x.time < y.time ∨ closing y.kind = true ∨ (x.kind = 2 ∧ x.a ≠ (n : Int))) (by
              rintro (h | h | h)
              · exact ht (.inl h)
              · exact ht (.inr h)
              · exact h2 h.1)]
            by_cases hc1 : command x.kind = true ∧ ¬ (x.kind = 16 ∧ x.a = -4)
            · rw [if_pos hc1]
              by_cases hc2 : (y.kind ≠ 2 ∧ command y.kind = false) ∨ x.time ≠ y.time
              · rw [if_pos ⟨hc1, hc2⟩]
                rcases hc2 with ⟨h3, h4⟩ | h3
                · simp [h3, h4]
                · simp [h3]
              · rw [if_neg (fun h => hc2 h.2)]
                have h5 : x.time = y.time := by
                  apply Decidable.byContradiction
                  intro h; exact hc2 (.inr h)
                have h6 : (decide (y.kind = 2) || command y.kind) = true := by
                  cases h : (decide (y.kind = 2) || command y.kind) with
                  | true => rfl
                  | false =>
                    rw [Bool.or_eq_false_iff] at h
                    exact absurd (.inl ⟨by simpa using h.1, h.2⟩) hc2
                rw [h6, decide_eq_true h5]; rfl
            · rw [if_neg hc1, if_neg (fun h => hc1 h.1)]; rfl
end Gr
end Go.Proofs.Ytdaafledkloegaa

/-
  The document's small calls of chapter 14: Fields, Command, Closing, Numbers.
-/
namespace Go.Proofs.Ytdaafledkloegaa
open Go.RowKit
set_option linter.unusedSimpArgs false
set_option linter.unusedVariables false
namespace Ev
theorem tab_cell (q : Nat) (hq : q < 32) : ([.int .i64 (-1), .int .i64 6, .int .i64 1, .int .i64 2, .int .i64 1, .int .i64 2, .int .i64 1, .int .i64 1, .int .i64 1, .int .i64 3, .int .i64 2, .int .i64 1, .int .i64 1, .int .i64 2, .int .i64 3, .int .i64 1, .int .i64 1, .int .i64 1, .int .i64 2, .int .i64 3, .int .i64 1, .int .i64 3, .int .i64 3, .int .i64 3, .int .i64 3, .int .i64 1, .int .i64 2, .int .i64 2, .int .i64 3, .int .i64 2, .int .i64 1, .int .i64 0] : List Value)[q]? = some (.int .i64 (tab.getD q (-1))) := by
  show (tab.map (fun x => Value.int .i64 x))[q]? = _
  rw [List.getElem?_map, List.getElem?_eq_getElem (show q < tab.length from hq), List.getD_eq_getElem?_getD, List.getElem?_eq_getElem (show q < tab.length from hq)]
  rfl

set_option maxRecDepth 100000 in
set_option maxHeartbeats 4000000 in
theorem fieldsR_any (k : Int) (w : World) :
    Calls Try.prog 38 #[.int .i64 k] w fun e w' => e = .returned (.int .i64 (fields k)) ∧ Below w.heap.size w w' := by
  have oL := Ob.Obj.new w 3 [.int .i64 (-1), .int .i64 6, .int .i64 1, .int .i64 2, .int .i64 1, .int .i64 2, .int .i64 1, .int .i64 1, .int .i64 1, .int .i64 3, .int .i64 2, .int .i64 1, .int .i64 1, .int .i64 2, .int .i64 3, .int .i64 1, .int .i64 1, .int .i64 1, .int .i64 2, .int .i64 3, .int .i64 1, .int .i64 3, .int .i64 3, .int .i64 3, .int .i64 3, .int .i64 1, .int .i64 2, .int .i64 2, .int .i64 3, .int .i64 2, .int .i64 1, .int .i64 0]
  by_cases hk : 1 ≤ k ∧ k ≤ 31
  · obtain ⟨q, rfl⟩ : ∃ q : Nat, k = (q : Int) := ⟨k.toNat, by omega⟩
    have h1 : ¬ (q : Int) < 1 := by omega
    have h2 : ¬ (q : Int) > 31 := by omega
    have hc := (oL.cell q).trans (tab_cell q (by omega))
    have HF := Lib.hid (show fields (q : Int) = tab.getD q (-1) by unfold fields; rw [if_neg (by omega)]; rfl)
    clear oL
    go_enter Try.func38, Try.ntmps38
    go_wp2_with fail
    all_goals go_ret
    all_goals exact ⟨by rw [HF.out, List.getD_eq_getElem?_getD]; rfl, (Below.refl _ _).alloc (Nat.le_refl _) _⟩
  · have HF := Lib.hid (show fields k = -1 by unfold fields; rw [if_pos (by omega)])
    clear oL
    by_cases h1 : k < 1
    · go_enter Try.func38, Try.ntmps38
      go_wp2_with fail
      all_goals go_ret
      all_goals exact ⟨by rw [HF.out]; rfl, (Below.refl _ _).alloc (Nat.le_refl _) _⟩
    · have h2 : k > 31 := by omega
      go_enter Try.func38, Try.ntmps38
      go_wp2_with fail
      all_goals go_ret
      all_goals exact ⟨by rw [HF.out]; rfl, (Below.refl _ _).alloc (Nat.le_refl _) _⟩

set_option maxRecDepth 100000 in
set_option maxHeartbeats 4000000 in
theorem commandR_any (k : Int) (w : World) :
    Calls Try.prog 27 #[.int .i64 k] w fun e w' => e = .returned (.bool (command k)) ∧ w = w' := by
  go_enter Try.func27, Try.ntmps27
  go_wp2_with fail
  all_goals go_ret
  all_goals refine ⟨congrArg (fun b => Ending.returned (.bool b)) ?_, rfl⟩
  all_goals (unfold command; first | (rw [Bool.eq_iff_iff]; simp; omega) | (simp_all; done) | (simp_all; omega))

set_option maxRecDepth 100000 in
set_option maxHeartbeats 4000000 in
theorem closingR_any (k : Int) (w : World) :
    Calls Try.prog 23 #[.int .i64 k] w fun e w' => e = .returned (.bool (closing k)) ∧ w = w' := by
  go_enter Try.func23, Try.ntmps23
  go_wp2_with fail
  all_goals go_ret
  all_goals refine ⟨congrArg (fun b => Ending.returned (.bool b)) ?_, rfl⟩
  all_goals (unfold closing; first | (rw [Bool.eq_iff_iff]; simp; omega) | (simp_all; done) | (simp_all; omega))

/-- an event as a value -/
def evC (x : Evt) : List Value := [.int .i64 x.id, .int .i64 x.time, .int .i64 x.kind, .int .i64 x.a, .int .i64 x.b, .int .i64 x.c, .int .i64 x.d, .int .i64 x.e, .int .i64 x.f]
def evV (x : Evt) : Value := .agg #[.int .i64 x.id, .int .i64 x.time, .int .i64 x.kind, .int .i64 x.a, .int .i64 x.b, .int .i64 x.c, .int .i64 x.d, .int .i64 x.e, .int .i64 x.f]
def numV (x : Evt) : List Value := [.int .i64 x.a, .int .i64 x.b, .int .i64 x.c, .int .i64 x.d, .int .i64 x.e, .int .i64 x.f]
theorem num_cell {W : World} {b : Nat} {T : TypeId} {x : Evt} (h : Ob.Obj W b T (numV x)) (q : Nat) (hq : q < 6) : W.cell? ⟨b, q, none⟩ = some (.int .i64 ((nums x).getD q 0)) := by
  rw [h.cell q]
  match q, hq with
  | 0, _ => rfl
  | 1, _ => rfl
  | 2, _ => rfl
  | 3, _ => rfl
  | 4, _ => rfl
  | 5, _ => rfl

set_option maxRecDepth 100000 in
set_option maxHeartbeats 4000000 in
theorem numbersR_any (x : Evt) (w : World) :
    Calls Try.prog 39 #[evV x] w fun e w' => ∃ b, e = .returned (.slice (some ⟨b, 0, none⟩) 6 6) ∧ Ob.Obj w' b 2 (numV x) ∧ w.heap.size ≤ b ∧ Below w.heap.size w w' := by
  obtain ⟨i, t, k, a, b, c, d, e, f⟩ := x
  unfold evV numV
  simp only
  have oE := Ob.Obj.new w 41 [.int .i64 i, .int .i64 t, .int .i64 k, .int .i64 a, .int .i64 b, .int .i64 c, .int .i64 d, .int .i64 e, .int .i64 f]
  have oN := Ob.Obj.new (w.alloc (.cells #[.int .i64 i, .int .i64 t, .int .i64 k, .int .i64 a, .int .i64 b, .int .i64 c, .int .i64 d, .int .i64 e, .int .i64 f] 41)) 2 [.int .i64 a, .int .i64 b, .int .i64 c, .int .i64 d, .int .i64 e, .int .i64 f]
  rw [show (w.alloc (.cells #[.int .i64 i, .int .i64 t, .int .i64 k, .int .i64 a, .int .i64 b, .int .i64 c, .int .i64 d, .int .i64 e, .int .i64 f] 41)).heap.size = w.heap.size + 1 by simp] at oN
  have c3 := oE.cell 3
  have c4 := oE.cell 4
  have c5 := oE.cell 5
  have c6 := oE.cell 6
  have c7 := oE.cell 7
  have c8 := oE.cell 8
  simp at c3 c4 c5 c6 c7 c8
  clear oE
  go_enter Try.func39, Try.ntmps39
  go_wp2_with fail
  all_goals go_ret
  all_goals refine ⟨_, rfl, ?_, ?_, ((Below.refl _ _).alloc (Nat.le_refl _) _).alloc (by simp) _⟩
  · exact oN
  · show w.heap.size ≤ w.heap.size + 1
    omega
end Ev
end Go.Proofs.Ytdaafledkloegaa

/-
  Rows of events (nine cells each): where they lie, what keeps them; events, lists of events and of kinds that came in, opened.
-/
namespace Go.Proofs.Ytdaafledkloegaa
open Go.RowKit
set_option linter.unusedVariables false
set_option linter.unusedSimpArgs false

theorem info_Event : (Try.prog.info? 41).map (fun i => (i.zero, i.size, i.bytes)) = some (some (.agg #[.int .i64 0, .int .i64 0, .int .i64 0, .int .i64 0, .int .i64 0, .int .i64 0, .int .i64 0, .int .i64 0, .int .i64 0]), 9, 72) := by kernel_rfl

namespace Ev
open Gn
theorem w64_lit {n : Int} (h : (Lit.int .i64 n).wf = true) : W64 n := by simpa [Lit.wf, IntKind.min, IntKind.max, IntKind.signed, IntKind.bits, W64] using h
abbrev evT : Gn.Ty := .struct (.cons (.int .i64) (.cons (.int .i64) (.cons (.int .i64) (.cons (.int .i64) (.cons (.int .i64) (.cons (.int .i64) (.cons (.int .i64) (.cons (.int .i64) (.cons (.int .i64) .nil)))))))))
abbrev ED : Type := Int × Int × Int × Int × Int × Int × Int × Int × Int × Unit
def toE (x : ED) : Evt := ⟨x.1, x.2.1, x.2.2.1, x.2.2.2.1, x.2.2.2.2.1, x.2.2.2.2.2.1, x.2.2.2.2.2.2.1, x.2.2.2.2.2.2.2.1, x.2.2.2.2.2.2.2.2.1⟩
theorem rd_ev {B : Nat} {W : World} {cs : List Value} {x : ED} (h : RdC B W evT cs x) : cs = evC (toE x) ∧ EvIn (toE x) := by
  obtain ⟨c1, d1, rfl, _, ⟨rfl, w1⟩, c2, d2, rfl, _, ⟨rfl, w2⟩, c3, d3, rfl, _, ⟨rfl, w3⟩, c4, d4, rfl, _, ⟨rfl, w4⟩, c5, d5, rfl, _, ⟨rfl, w5⟩, c6, d6, rfl, _, ⟨rfl, w6⟩, c7, d7, rfl, _, ⟨rfl, w7⟩, c8, d8, rfl, _, ⟨rfl, w8⟩, c9, d9, rfl, _, ⟨rfl, w9⟩, rfl⟩ := h
  exact ⟨rfl, w64_lit w1, w64_lit w2, w64_lit w3, w64_lit w4, w64_lit w5, w64_lit w6, w64_lit w7, w64_lit w8, w64_lit w9⟩
def ebulk (x : ED) : Nat := evT.bulk x
theorem ebulk_pos (x : ED) : 1 ≤ ebulk x := by show 1 ≤ _ + 1; omega
theorem len_sumE {α : Type} (f : α → Nat) (h1 : ∀ x, 1 ≤ f x) : ∀ l : List α, l.length ≤ (l.map f).sum
  | [] => by simp
  | x :: r => by
    have := len_sumE f h1 r
    have := h1 x
    simp; omega
/-- the nine cells of an event -/
def AtE (W : World) (b o : Nat) (x : Evt) : Prop := ∀ m, m < 9 → W.cell? ⟨b, o + m, none⟩ = (evC x)[m]?
theorem AtE.below {B : Nat} {W W' : World} {b o : Nat} {x : Evt} (h : AtE W b o x) (hb : Below B W W') (hl : b < B) : AtE W' b o x := fun m hm => (hb.cell (p := ⟨b, o + m, none⟩) hl).trans (h m hm)
/-- events in a row, in blocks below B -/
def Evs (B : Nat) (W : World) (v : Value) (L : List Evt) : Prop :=
  ∃ (a : Option Addr) (cap b off : Nat), v = .slice a L.length cap ∧ (0 < L.length → a = some ⟨b, off, none⟩ ∧ b < B) ∧ ∀ j (h : j < L.length), AtE W b (off + j * 9) L[j]
theorem Evs.below {B : Nat} {W W' : World} {v : Value} {L : List Evt} (h : Evs B W v L) (hb : Below B W W') : Evs B W' v L := by
  obtain ⟨a, cap, b, off, h1, h2, h3⟩ := h
  exact ⟨a, cap, b, off, h1, h2, fun j hj => (h3 j hj).below hb (h2 (by omega)).2⟩
theorem Evs.grow {B B' : Nat} {W W' : World} {v : Value} {L : List Evt} (h : Evs B W v L) (hb : Below B W W') (hB : B ≤ B') : Evs B' W' v L := by
  obtain ⟨a, cap, b, off, h1, h2, h3⟩ := h.below hb
  exact ⟨a, cap, b, off, h1, fun h => ⟨(h2 h).1, Nat.lt_of_lt_of_le (h2 h).2 hB⟩, h3⟩
def ecs (L : List Evt) : List Value := (L.map evC).flatten
theorem ecs_snoc (L : List Evt) (x : Evt) : ecs (L ++ [x]) = ecs L ++ evC x := by simp [ecs]
theorem cell_nine_new (w : World) (x : Evt) (t : TypeId) : ∀ j u, (evC x)[j]? = some u → (w.alloc (.cells (evC x).toArray t)).cell? ((⟨w.heap.size, 0, none⟩ : Addr).add j) = some u := by
  intro j u hj
  have h := (Ob.Obj.new w t (evC x)).cell j
  rw [hj] at h
  match j, h with
  | 0, h => simpa [Addr.add] using h
  | j + 1, h => simpa [Addr.add] using h
/-- such a row is read as events -/
theorem evs_of_own {W : World} {B : Nat} {te : TypeId} {v : Value} {L : List Evt} (h : W.ownsRow B te 9 v L.length (ecs L)) : Evs W.heap.size W v L := by
  obtain ⟨a, cap, b, rfl, _, _, h3⟩ := Gn.row_at h
  refine ⟨a, cap, b, 0, rfl, fun h => ⟨(h3 h).1, (h3 h).2.2.1⟩, fun j hj k hk => ?_⟩
  obtain ⟨_, _, _, hc⟩ := h3 (by omega)
  have e : 0 + j * 9 + k = j * 9 + k := by omega
  rw [e, hc (j * 9 + k) (by omega)]
  have := Gn.flatten_get (sz := 9) (L.map evC) (fun i hi => by simp [evC]) j (by simpa using hj) k hk
  unfold ecs
  rw [this]
  simp
/-- events that came in -/
structure EvsIn (W : World) (v : Value) (L : List Evt) : Prop where
  evs : Evs W.heap.size W v L
  each : ∀ x ∈ L, EvIn x
  many : L.length ≤ 1048576
theorem evs_of_rd {B : Nat} {W : World} {cs : List Value} {X : List ED} (h : RdC B W (.slice evT) cs X) : ∃ v, cs = [v] ∧ Evs B W v (X.map toE) ∧ ∀ x ∈ X.map toE, EvIn x := by
  obtain ⟨a, cap, b, off, h1, _, _, h2, h3⟩ := h
  refine ⟨_, h1, ⟨a, cap, b, off, by rw [List.length_map]; rfl, fun h => h2 (by rwa [List.length_map] at h), fun j hj m hm => ?_⟩, fun x hx => ?_⟩
  · rw [List.length_map] at hj
    obtain ⟨cs', g1, g2, g3⟩ := h3 j hj
    obtain ⟨rfl, _⟩ := rd_ev g3
    rw [List.getElem_map]
    exact g2 m hm
  · obtain ⟨y, hy, rfl⟩ := List.mem_map.1 hx
    obtain ⟨j, hj, rfl⟩ := List.getElem_of_mem hy
    obtain ⟨cs', g1, g2, g3⟩ := h3 j hj
    exact (rd_ev g3).2
variable {H : Type} {enc : TypeId × Value → H} {W : World}

set_option maxRecDepth 100000 in
theorem open_evs {B : Nat} {v : Value} {d : DataW H} {p : List MemPlace} {base : Nat} (hv : Value.okWide Try.prog W .any base 22 v)
    (h : DataW.Trod enc Try.prog W 0 (fun _ => true) true 22 v d p) (hlt : ∀ x ∈ p, x.block < W.heap.size) (hB : Rows.uptoBulk d ≤ B) (hB2 : B ≤ 1048576 := by omega) :
    ∃ (a : Option Addr) (n cap : Nat) (L : List Evt), v = .slice a n cap ∧ EvsIn W (.slice a n cap) L := by
  obtain ⟨cs, l, rfl, hx, hb⟩ := open_val (.slice evT) (by kernel_rfl) hv h hB
  change List ED at l
  replace hb : (l.map ebulk).sum + 1 ≤ B := hb
  obtain ⟨u, hu, hV, hs⟩ := evs_of_rd (X := l) hx
  have hl := len_sumE ebulk ebulk_pos l
  obtain ⟨a, cap, b, off, e1, e2⟩ := hV
  subst e1
  cases hu
  exact ⟨a, _, cap, _, rfl, ⟨⟨a, cap, b, off, rfl, e2⟩, hs, by rw [List.length_map]; omega⟩⟩

set_option maxRecDepth 100000 in
theorem open_ev {B : Nat} {v : Value} {d : DataW H} {p : List MemPlace} {base : Nat} (hv : Value.okWide Try.prog W .any base 41 v)
    (h : DataW.Trod enc Try.prog W 0 (fun _ => true) true 41 v d p) (hlt : ∀ x ∈ p, x.block < W.heap.size) (_ : 0 ≤ 1) :
    ∃ (x : Evt), v = evV x ∧ EvIn x := by
  obtain ⟨cs, l, rfl, hx, hb⟩ := open_val evT (by kernel_rfl) hv h (Nat.le_refl _)
  obtain ⟨rfl, q⟩ := rd_ev (x := l) hx
  exact ⟨toE l, rfl, q⟩

set_option maxRecDepth 100000 in
theorem open_kinds {B : Nat} {v : Value} {d : DataW H} {p : List MemPlace} {base : Nat} (hv : Value.okWide Try.prog W .any base 31 v)
    (h : DataW.Trod enc Try.prog W 0 (fun _ => true) true 31 v d p) (hlt : ∀ x ∈ p, x.block < W.heap.size) (hB : Rows.uptoBulk d ≤ B) (hB2 : B ≤ 1048576 := by omega) :
    ∃ (a : Option Addr) (n cap : Nat) (l : List Int), v = .slice a n cap ∧ (Fi.Ints W.heap.size W (.slice a n cap) l ∧ (∀ x ∈ l, W64 x) ∧ l.length ≤ 1048576) := by
  obtain ⟨cs, l, rfl, hx, hb⟩ := open_val (.slice (.int .i64)) (by kernel_rfl) hv h hB
  change List Int at l
  replace hb : (l.map fun _ => 1).sum + 1 ≤ B := hb
  have hl := len_sumE (fun _ : Int => 1) (fun _ => Nat.le_refl _) l
  obtain ⟨a, cap, b, off, h1, _, _, h2, h3⟩ := hx
  cases h1
  refine ⟨a, _, cap, l, rfl, ⟨a, cap, b, off, rfl, h2, fun j hj => ?_⟩, fun x hx => ?_, by omega⟩
  · obtain ⟨cs', g1, g2, g3⟩ := h3 j hj
    obtain ⟨rfl, _⟩ := g3
    have := g2 0 (by decide)
    rw [show off + j = off + j * 1 + 0 by omega]
    exact this
  · obtain ⟨j, hj, rfl⟩ := List.getElem_of_mem hx
    obtain ⟨cs', g1, g2, g3⟩ := h3 j hj
    obtain ⟨rfl, w⟩ := g3
    exact w64_lit w
end Ev
end Go.Proofs.Ytdaafledkloegaa

/-
  What the document lets a number of an event be (tapestryref14.span): numbers 0 and 1.
-/
namespace Go.Proofs.Ytdaafledkloegaa
open Go.RowKit
set_option linter.unusedSimpArgs false
set_option linter.unusedVariables false
namespace Ev

set_option maxRecDepth 100000 in
set_option maxHeartbeats 16000000 in
theorem spanR_0 (kind : Int) (w : World) (h1 : 1 ≤ kind) (h2 : kind ≤ 31) :
    Calls Try.prog 40 #[.int .i64 kind, .int .i64 0] w fun e w' => e = .returned (.tuple #[.int .i64 (span kind 0).1, .int .i64 (span kind 0).2]) ∧ w = w' := by
  have h : kind = 1 ∨ kind = 2 ∨ kind = 3 ∨ kind = 4 ∨ kind = 5 ∨ kind = 6 ∨ kind = 7 ∨ kind = 8 ∨ kind = 9 ∨ kind = 10 ∨ kind = 11 ∨ kind = 12 ∨ kind = 13 ∨ kind = 14 ∨ kind = 15 ∨ kind = 16 ∨ kind = 17 ∨ kind = 18 ∨ kind = 19 ∨ kind = 20 ∨ kind = 21 ∨ kind = 22 ∨ kind = 23 ∨ kind = 24 ∨ kind = 25 ∨ kind = 26 ∨ kind = 27 ∨ kind = 28 ∨ kind = 29 ∨ kind = 30 ∨ kind = 31 := by omega
  clear h1 h2
  rcases h with rfl | rfl | rfl | rfl | rfl | rfl | rfl | rfl | rfl | rfl | rfl | rfl | rfl | rfl | rfl | rfl | rfl | rfl | rfl | rfl | rfl | rfl | rfl | rfl | rfl | rfl | rfl | rfl | rfl | rfl | rfl
  all_goals
    go_enter Try.func40, Try.ntmps40
    go_wp2_with fail
    go_ret2
    exact ⟨rfl, rfl⟩

set_option maxRecDepth 100000 in
set_option maxHeartbeats 16000000 in
theorem spanR_1 (kind : Int) (w : World) (h1 : 1 ≤ kind) (h2 : kind ≤ 31) :
    Calls Try.prog 40 #[.int .i64 kind, .int .i64 1] w fun e w' => e = .returned (.tuple #[.int .i64 (span kind 1).1, .int .i64 (span kind 1).2]) ∧ w = w' := by
  have h : kind = 1 ∨ kind = 2 ∨ kind = 3 ∨ kind = 4 ∨ kind = 5 ∨ kind = 6 ∨ kind = 7 ∨ kind = 8 ∨ kind = 9 ∨ kind = 10 ∨ kind = 11 ∨ kind = 12 ∨ kind = 13 ∨ kind = 14 ∨ kind = 15 ∨ kind = 16 ∨ kind = 17 ∨ kind = 18 ∨ kind = 19 ∨ kind = 20 ∨ kind = 21 ∨ kind = 22 ∨ kind = 23 ∨ kind = 24 ∨ kind = 25 ∨ kind = 26 ∨ kind = 27 ∨ kind = 28 ∨ kind = 29 ∨ kind = 30 ∨ kind = 31 := by omega
  clear h1 h2
  rcases h with rfl | rfl | rfl | rfl | rfl | rfl | rfl | rfl | rfl | rfl | rfl | rfl | rfl | rfl | rfl | rfl | rfl | rfl | rfl | rfl | rfl | rfl | rfl | rfl | rfl | rfl | rfl | rfl | rfl | rfl | rfl
  all_goals
    go_enter Try.func40, Try.ntmps40
    go_wp2_with fail
    go_ret2
    exact ⟨rfl, rfl⟩
end Ev
end Go.Proofs.Ytdaafledkloegaa

/-
  What the document lets a number of an event be (tapestryref14.span): numbers 2 and 3.
-/
namespace Go.Proofs.Ytdaafledkloegaa
open Go.RowKit
set_option linter.unusedSimpArgs false
set_option linter.unusedVariables false
namespace Ev

set_option maxRecDepth 100000 in
set_option maxHeartbeats 16000000 in
theorem spanR_2 (kind : Int) (w : World) (h1 : 1 ≤ kind) (h2 : kind ≤ 31) :
    Calls Try.prog 40 #[.int .i64 kind, .int .i64 2] w fun e w' => e = .returned (.tuple #[.int .i64 (span kind 2).1, .int .i64 (span kind 2).2]) ∧ w = w' := by
  have h : kind = 1 ∨ kind = 2 ∨ kind = 3 ∨ kind = 4 ∨ kind = 5 ∨ kind = 6 ∨ kind = 7 ∨ kind = 8 ∨ kind = 9 ∨ kind = 10 ∨ kind = 11 ∨ kind = 12 ∨ kind = 13 ∨ kind = 14 ∨ kind = 15 ∨ kind = 16 ∨ kind = 17 ∨ kind = 18 ∨ kind = 19 ∨ kind = 20 ∨ kind = 21 ∨ kind = 22 ∨ kind = 23 ∨ kind = 24 ∨ kind = 25 ∨ kind = 26 ∨ kind = 27 ∨ kind = 28 ∨ kind = 29 ∨ kind = 30 ∨ kind = 31 := by omega
  clear h1 h2
  rcases h with rfl | rfl | rfl | rfl | rfl | rfl | rfl | rfl | rfl | rfl | rfl | rfl | rfl | rfl | rfl | rfl | rfl | rfl | rfl | rfl | rfl | rfl | rfl | rfl | rfl | rfl | rfl | rfl | rfl | rfl | rfl
  all_goals
    go_enter Try.func40, Try.ntmps40
    go_wp2_with fail
    go_ret2
    exact ⟨rfl, rfl⟩

set_option maxRecDepth 100000 in
set_option maxHeartbeats 16000000 in
theorem spanR_3 (kind : Int) (w : World) (h1 : 1 ≤ kind) (h2 : kind ≤ 31) :
    Calls Try.prog 40 #[.int .i64 kind, .int .i64 3] w fun e w' => e = .returned (.tuple #[.int .i64 (span kind 3).1, .int .i64 (span kind 3).2]) ∧ w = w' := by
  have h : kind = 1 ∨ kind = 2 ∨ kind = 3 ∨ kind = 4 ∨ kind = 5 ∨ kind = 6 ∨ kind = 7 ∨ kind = 8 ∨ kind = 9 ∨ kind = 10 ∨ kind = 11 ∨ kind = 12 ∨ kind = 13 ∨ kind = 14 ∨ kind = 15 ∨ kind = 16 ∨ kind = 17 ∨ kind = 18 ∨ kind = 19 ∨ kind = 20 ∨ kind = 21 ∨ kind = 22 ∨ kind = 23 ∨ kind = 24 ∨ kind = 25 ∨ kind = 26 ∨ kind = 27 ∨ kind = 28 ∨ kind = 29 ∨ kind = 30 ∨ kind = 31 := by omega
  clear h1 h2
  rcases h with rfl | rfl | rfl | rfl | rfl | rfl | rfl | rfl | rfl | rfl | rfl | rfl | rfl | rfl | rfl | rfl | rfl | rfl | rfl | rfl | rfl | rfl | rfl | rfl | rfl | rfl | rfl | rfl | rfl | rfl | rfl
  all_goals
    go_enter Try.func40, Try.ntmps40
    go_wp2_with fail
    go_ret2
    exact ⟨rfl, rfl⟩
end Ev
end Go.Proofs.Ytdaafledkloegaa

/-
  What the document lets a number of an event be (tapestryref14.span): numbers 4 and 5.
-/
namespace Go.Proofs.Ytdaafledkloegaa
open Go.RowKit
set_option linter.unusedSimpArgs false
set_option linter.unusedVariables false
namespace Ev

set_option maxRecDepth 100000 in
set_option maxHeartbeats 16000000 in
theorem spanR_4 (kind : Int) (w : World) (h1 : 1 ≤ kind) (h2 : kind ≤ 31) :
    Calls Try.prog 40 #[.int .i64 kind, .int .i64 4] w fun e w' => e = .returned (.tuple #[.int .i64 (span kind 4).1, .int .i64 (span kind 4).2]) ∧ w = w' := by
  have h : kind = 1 ∨ kind = 2 ∨ kind = 3 ∨ kind = 4 ∨ kind = 5 ∨ kind = 6 ∨ kind = 7 ∨ kind = 8 ∨ kind = 9 ∨ kind = 10 ∨ kind = 11 ∨ kind = 12 ∨ kind = 13 ∨ kind = 14 ∨ kind = 15 ∨ kind = 16 ∨ kind = 17 ∨ kind = 18 ∨ kind = 19 ∨ kind = 20 ∨ kind = 21 ∨ kind = 22 ∨ kind = 23 ∨ kind = 24 ∨ kind = 25 ∨ kind = 26 ∨ kind = 27 ∨ kind = 28 ∨ kind = 29 ∨ kind = 30 ∨ kind = 31 := by omega
  clear h1 h2
  rcases h with rfl | rfl | rfl | rfl | rfl | rfl | rfl | rfl | rfl | rfl | rfl | rfl | rfl | rfl | rfl | rfl | rfl | rfl | rfl | rfl | rfl | rfl | rfl | rfl | rfl | rfl | rfl | rfl | rfl | rfl | rfl
  all_goals
    go_enter Try.func40, Try.ntmps40
    go_wp2_with fail
    go_ret2
    exact ⟨rfl, rfl⟩

set_option maxRecDepth 100000 in
set_option maxHeartbeats 16000000 in
theorem spanR_5 (kind : Int) (w : World) (h1 : 1 ≤ kind) (h2 : kind ≤ 31) :
    Calls Try.prog 40 #[.int .i64 kind, .int .i64 5] w fun e w' => e = .returned (.tuple #[.int .i64 (span kind 5).1, .int .i64 (span kind 5).2]) ∧ w = w' := by
  have h : kind = 1 ∨ kind = 2 ∨ kind = 3 ∨ kind = 4 ∨ kind = 5 ∨ kind = 6 ∨ kind = 7 ∨ kind = 8 ∨ kind = 9 ∨ kind = 10 ∨ kind = 11 ∨ kind = 12 ∨ kind = 13 ∨ kind = 14 ∨ kind = 15 ∨ kind = 16 ∨ kind = 17 ∨ kind = 18 ∨ kind = 19 ∨ kind = 20 ∨ kind = 21 ∨ kind = 22 ∨ kind = 23 ∨ kind = 24 ∨ kind = 25 ∨ kind = 26 ∨ kind = 27 ∨ kind = 28 ∨ kind = 29 ∨ kind = 30 ∨ kind = 31 := by omega
  clear h1 h2
  rcases h with rfl | rfl | rfl | rfl | rfl | rfl | rfl | rfl | rfl | rfl | rfl | rfl | rfl | rfl | rfl | rfl | rfl | rfl | rfl | rfl | rfl | rfl | rfl | rfl | rfl | rfl | rfl | rfl | rfl | rfl | rfl
  all_goals
    go_enter Try.func40, Try.ntmps40
    go_wp2_with fail
    go_ret2
    exact ⟨rfl, rfl⟩
end Ev
end Go.Proofs.Ytdaafledkloegaa

/-
  What the document lets a number of an event be (tapestryref14.span).
-/
namespace Go.Proofs.Ytdaafledkloegaa
open Go.RowKit
set_option linter.unusedSimpArgs false
set_option linter.unusedVariables false
namespace Ev

theorem spanR_any (kind : Int) (k : Nat) (w : World) (h1 : 1 ≤ kind) (h2 : kind ≤ 31) (hk : k < 6) :
    Calls Try.prog 40 #[.int .i64 kind, .int .i64 (k : Int)] w fun e w' => e = .returned (.tuple #[.int .i64 (span kind k).1, .int .i64 (span kind k).2]) ∧ w = w' := by
  have h : k = 0 ∨ k = 1 ∨ k = 2 ∨ k = 3 ∨ k = 4 ∨ k = 5 := by omega
  rcases h with rfl | rfl | rfl | rfl | rfl | rfl
  · exact spanR_0 kind w h1 h2
  · exact spanR_1 kind w h1 h2
  · exact spanR_2 kind w h1 h2
  · exact spanR_3 kind w h1 h2
  · exact spanR_4 kind w h1 h2
  · exact spanR_5 kind w h1 h2
end Ev
end Go.Proofs.Ytdaafledkloegaa

/-
  The document's answer of P14.2 (tapestryref14.Valid).
-/
namespace Go.Proofs.Ytdaafledkloegaa
open Go.RowKit
set_option linter.unusedSimpArgs false
set_option linter.unusedVariables false
namespace Ev
theorem valid_mk {x : Evt} (h0 : 0 ≤ fields x.kind) (h1 : 1 ≤ x.id) (h2 : x.id ≤ 256) (h3 : 0 ≤ x.time) (h4 : x.time ≤ 1099511627776) (h : ∀ j, j < 6 → numB x.kind j ((nums x).getD j 0) = true) : validB x = true := by
  have n0 : numB x.kind 0 x.a = true := h 0 (by decide)
  have n1 : numB x.kind 1 x.b = true := h 1 (by decide)
  have n2 : numB x.kind 2 x.c = true := h 2 (by decide)
  have n3 : numB x.kind 3 x.d = true := h 3 (by decide)
  have n4 : numB x.kind 4 x.e = true := h 4 (by decide)
  have n5 : numB x.kind 5 x.f = true := h 5 (by decide)
  unfold validB
  rw [n0, n1, n2, n3, n4, n5]
  simp [h0, h1, h2, h3, h4]
theorem valid_num {x : Evt} {j : Nat} (hj : j < 6) (h : numB x.kind j ((nums x).getD j 0) = false) : validB x = false := by
  cases hv : validB x with
  | false => rfl
  | true =>
    obtain ⟨_, _, _, _, _, n0, n1, n2, n3, n4, n5⟩ := valid_at hv
    match j, hj with
    | 0, _ => exact absurd (n0.symm.trans h) (by decide)
    | 1, _ => exact absurd (n1.symm.trans h) (by decide)
    | 2, _ => exact absurd (n2.symm.trans h) (by decide)
    | 3, _ => exact absurd (n3.symm.trans h) (by decide)
    | 4, _ => exact absurd (n4.symm.trans h) (by decide)
    | 5, _ => exact absurd (n5.symm.trans h) (by decide)
theorem valid_head {x : Evt} (h : fields x.kind < 0 ∨ x.id < 1 ∨ 256 < x.id ∨ x.time < 0 ∨ 1099511627776 < x.time) : validB x = false := by
  cases hv : validB x with
  | false => rfl
  | true =>
    obtain ⟨h0, h1, h2, h3, h4, _⟩ := valid_at hv
    omega
theorem numB_out {kind : Int} {q : Nat} {v n : Int} (hn : fields kind = n) (hq : (q : Int) ≥ n) : numB kind q v = decide (v = 0) := by
  unfold numB; rw [if_neg (by omega)]
theorem numB_in {kind : Int} {q : Nat} {v n : Int} (hn : fields kind = n) (hq : (q : Int) < n) : numB kind q v = (decide ((span kind q).1 ≤ v) && decide (v ≤ (span kind q).2)) := by
  unfold numB; rw [if_pos (by omega)]

set_option maxRecDepth 100000 in
set_option maxHeartbeats 8000000 in
theorem validR_any (x : Evt) (w : World) :
    Calls Try.prog 26 #[evV x] w fun e w' => e = .returned (.bool (validB x)) ∧ Below w.heap.size w w' := by
  have HF := Lib.hid (fun W => fieldsR_any x.kind W)
  have HN := Lib.hid (fun W => numbersR_any x W)
  have HS := Lib.hid (fun (h : 0 ≤ fields x.kind) (q : Nat) (hq : q < 6) W => spanR_any x.kind q W (kind_in h).1 (kind_in h).2 hq)
  have HVM := Lib.hid (valid_mk (x := x))
  have HVN := Lib.hid (fun j => valid_num (x := x) (j := j))
  have HVH := Lib.hid (valid_head (x := x))
  have HNC := Lib.hid (fun W b (h : Ob.Obj W b 2 (numV x)) q hq => num_cell h q hq)
  have HNO := Lib.hid (fun (q : Nat) (v : Int) => numB_out (kind := x.kind) (q := q) (v := v) rfl)
  have HNI := Lib.hid (fun (q : Nat) (v : Int) => numB_in (kind := x.kind) (q := q) (v := v) rfl)
  generalize hNB : (fun j => numB x.kind j) = NB at *
  have hNB2 : ∀ j v, numB x.kind j v = NB j v := fun j v => by rw [← hNB]
  simp only [hNB2] at HVM HVN HNO HNI
  clear hNB hNB2
  generalize hNU : (fun j => (nums x).getD j 0) = NU at *
  have hNU2 : ∀ j, (nums x).getD j 0 = NU j := fun j => by rw [← hNU]
  simp only [hNU2] at HVM HVN HNC
  clear hNU hNU2
  generalize validB x = vb at *
  obtain ⟨i, t, k, a, b, c, d, e, f⟩ := x
  unfold evV at *
  simp only at *
  generalize hn : fields k = n at *
  clear hn
  have oE := Ob.Obj.new w 41 [.int .i64 i, .int .i64 t, .int .i64 k, .int .i64 a, .int .i64 b, .int .i64 c, .int .i64 d, .int .i64 e, .int .i64 f]
  have hA : Below w.heap.size w (w.alloc (.cells #[.int .i64 i, .int .i64 t, .int .i64 k, .int .i64 a, .int .i64 b, .int .i64 c, .int .i64 d, .int .i64 e, .int .i64 f] 41)) := (Below.refl _ _).alloc (Nat.le_refl _) _
  by_cases hh : n < 0 ∨ i < 1 ∨ 256 < i ∨ t < 0 ∨ 1099511627776 < t
  · obtain rfl := HVH.out hh
    have c2 := oE.cell 2
    simp at c2
    have hd : (n < 0) ∨ (¬ n < 0 ∧ i < 1) ∨ (¬ n < 0 ∧ ¬ i < 1 ∧ i > 256) ∨ (¬ n < 0 ∧ ¬ i < 1 ∧ ¬ i > 256 ∧ t < 0) ∨ (¬ n < 0 ∧ ¬ i < 1 ∧ ¬ i > 256 ∧ ¬ t < 0 ∧ t > 1099511627776) := by omega
    clear hh HVM HVN HVH HNC HNO HNI HS HN
    rcases hd with h1 | ⟨h1, h2⟩ | ⟨h1, h2, h3⟩ | ⟨h1, h2, h3, h4⟩ | ⟨h1, h2, h3, h4, h5⟩
    all_goals
      go_enter Try.func26, Try.ntmps26
      go_wp2_with (go_at_call 38; (with_reducible refine (HF.out _).mono ?_); rintro e w2 ⟨rfl, hb2⟩; have oE2 := oE.below hb2; have d0 := oE2.cell 0; have d1 := oE2.cell 1; simp at d0 d1)
      go_ret
      exact ⟨rfl, hA.trans (hb2.mono hA.size)⟩
  · have h1 : ¬ n < 0 := by omega
    have h2 : ¬ i < 1 := by omega
    have h3 : ¬ i > 256 := by omega
    have h4 : ¬ t < 0 := by omega
    have h5 : ¬ t > 1099511627776 := by omega
    have c2 := oE.cell 2
    simp at c2
    have HS2 := Lib.hid (HS.out (by omega))
    have HVM2 := Lib.hid (HVM.out (by omega) (by omega) (by omega) (by omega) (by omega))
    clear hh HVM HVH HS
    go_enter Try.func26, Try.ntmps26
    go_wp2_with (first
      | (go_at_call 38; (with_reducible refine (HF.out _).mono ?_); rintro e w2 ⟨rfl, hb2⟩; have hB2 := hA.trans (hb2.mono hA.size); have oE2 := oE.below hb2; have d0 := oE2.cell 0; have d1 := oE2.cell 1; have d2 := oE2.cell 2; have d3 := oE2.cell 3; have d4 := oE2.cell 4; have d5 := oE2.cell 5; have d6 := oE2.cell 6; have d7 := oE2.cell 7; have d8 := oE2.cell 8; simp at d0 d1 d2 d3 d4 d5 d6 d7 d8)
      | (go_at_call 39; (with_reducible refine (HN.out _).mono ?_); rintro e w3 ⟨g, rfl, oN, hg, hb3⟩; have hB3 := Lib.hid (hB2.trans (hb3.mono hB2.size)); have oE3 := oE2.below hb3))
    clear d0 d1 d2 d3 d4 d5 d6 d7 d8 hg hb2 hb3 hB2 oE2 c2 oE hA
    go_loopw [5] (fun s wr => ∃ q : Nat, q ≤ 6 ∧ s = .int .i64 (q : Int) ∧ Below w.heap.size w wr ∧ Ob.Obj wr w.heap.size 41 [.int .i64 i, .int .i64 t, .int .i64 k, .int .i64 a, .int .i64 b, .int .i64 c, .int .i64 d, .int .i64 e, .int .i64 f] ∧ Ob.Obj wr g 2 (numV ⟨i, t, k, a, b, c, d, e, f⟩) ∧ Hid (∀ j, j < q → NB j (NU j) = true)) (fun s _ => 6 - (intOf s).toNat)
    case atStart => exact ⟨0, Nat.zero_le _, rfl, hB3.out, oE3, oN, fun j hj => absurd hj (by omega)⟩
    case round =>
      clear hB3 oE3 oN
      obtain ⟨q, hq, rfl, hB, oE, oN, hall⟩ := hrel
      obtain ⟨wo, rfl⟩ : ∃ wo : World, wo = wr := ⟨_, rfl⟩
      have p2 := oE.cell 2
      simp at p2
      by_cases hlt : q < 6
      · have hi1 : (0 : Int) ≤ (q : Int) ∧ (q : Int) < 6 := by omega
        have e0 := HNC.out _ _ oN q hlt
        have hgl := oN.lt
        have HQ := Lib.hid (fun W => HS2.out q hlt W)
        have HO := Lib.hid (HNO.out q (NU q))
        have HI := Lib.hid (HNI.out q (NU q))
        have HX := Lib.hid (HVN.out q hlt)
        have HAL := Lib.hid (fun (h : NB q (NU q) = true) j (hj : j < q + 1) => show NB j (NU j) = true from if hjq : j = q then (by rw [hjq]; exact h) else hall.out j (by omega))
        clear hall HNC HNO HNI HVN HVM2
        generalize span k q = lh at *
        generalize NU q = v at *
        generalize NB q v = nb at *
        obtain ⟨lo, hi⟩ := lh
        simp only at HQ HI
        by_cases hqn : (q : Int) ≥ n
        · have hqn2 : ¬ (q : Int) < n := by omega
          have hO := HO.out hqn
          by_cases hv : v = 0
          · subst hv
            have HAL2 := Lib.hid (HAL.out (by rw [hO]; rfl))
            clear hO
            go_wp2_with (go_at_call 40; (with_reducible refine (HQ.out _).mono ?_); rintro e w6 ⟨rfl, rfl⟩)
            go_roundw
            case rel => exact ⟨q + 1, by omega, by go_num, hB, oE, oN, HAL2.out⟩
            case measure => simp [intOf]; omega
          · have hvb : (v != 0) = true := by simpa using hv
            obtain rfl := HX.out (by rw [hO]; simpa using hv)
            clear hO hv
            go_wp2_with (go_at_call 40; (with_reducible refine (HQ.out _).mono ?_); rintro e w6 ⟨rfl, rfl⟩)
            go_ret
            exact ⟨rfl, hB⟩
        · have hqn2 : (q : Int) < n := by omega
          have hI := HI.out hqn2
          by_cases hlo : v < lo
          · obtain rfl := HX.out (by rw [hI]; simp; omega)
            clear hI
            go_wp2_with (go_at_call 40; (with_reducible refine (HQ.out _).mono ?_); rintro e w6 ⟨rfl, rfl⟩)
            go_ret
            exact ⟨rfl, hB⟩
          · by_cases hhi : v > hi
            · obtain rfl := HX.out (by rw [hI]; simp; omega)
              clear hI
              go_wp2_with (go_at_call 40; (with_reducible refine (HQ.out _).mono ?_); rintro e w6 ⟨rfl, rfl⟩)
              go_ret
              exact ⟨rfl, hB⟩
            · have HAL2 := Lib.hid (HAL.out (by rw [hI]; simp; omega))
              clear hI
              go_wp2_with (go_at_call 40; (with_reducible refine (HQ.out _).mono ?_); rintro e w6 ⟨rfl, rfl⟩)
              go_roundw
              case rel => exact ⟨q + 1, by omega, by go_num, hB, oE, oN, HAL2.out⟩
              case measure => simp [intOf]; omega
      · obtain rfl : q = 6 := by omega
        obtain rfl := HVM2.out hall.out
        go_wp2_with fail
        go_ret
        exact ⟨rfl, hB⟩
end Ev
end Go.Proofs.Ytdaafledkloegaa

/-
  The document's answer of P14.3 (tapestryref14.Encode).
-/
namespace Go.Proofs.Ytdaafledkloegaa
open Go.RowKit
set_option linter.unusedSimpArgs false
set_option linter.unusedVariables false
namespace Ev
theorem putV_len {d : Int} (h : 0 ≤ d ∧ d ≤ 1099511627776) : (putV d).length ≤ 10 := Cd.putU_len10 _ (by omega)
theorem putI_len {a : Int} (h : W64 a) : (putI a).length ≤ 10 := Cd.putU_len10 _ (Cd.zig_lt a h.1 h.2)
theorem flat_snoc {α : Type} (f : α → Dat) {L : List α} {q : Nat} (h : q < L.length) : (L.take (q + 1)).flatMap f = (L.take q).flatMap f ++ f L[q] := by
  rw [List.take_add_one, List.flatMap_append, List.getElem?_eq_getElem h]; simp
theorem wrap_at {d : Int} (h : 0 ≤ d ∧ d ≤ 1099511627776) : IntKind.u64.wrap d = d := by rw [show IntKind.u64.wrap d = d % 18446744073709551616 from rfl]; omega
theorem load_cut (x : Evt) : load x = ((putV x.id ++ putV x.time) ++ putV x.kind) ++ ((nums x).take (many x)).flatMap putI := rfl

theorem add_at (a b c : Dat) (h : c = a ++ b) (hl : c.length ≤ 140737488355328) : ∀ W : World, (Op.stringOp .add (Cd.bs a) (Cd.bs b)).run Try.prog W = .ok (.string (Cd.bs c)) W := fun W => by
  subst h
  rw [List.length_append] at hl
  rw [run_string_add_sum W _ _ (by show a.length + b.length ≤ _; omega), ByteArray.mk_append_mk]

/-- amid the head of an event -/
def HdE (w1 : World) (o : Nat) (v0 v1 v2 : Value) (W : World) : Prop :=
  Below w1.heap.size w1 W ∧ W.cell? ⟨o, 0, none⟩ = some v0 ∧ W.cell? ⟨o, 1, none⟩ = some v1 ∧ W.cell? ⟨o, 2, none⟩ = some v2
theorem HdE.next {w1 W W' : World} {o : Nat} {v0 v1 v2 : Value} (ho : o < w1.heap.size) (h : HdE w1 o v0 v1 v2 W) (hb : Below W.heap.size W W') : Below w1.heap.size w1 W' ∧ W'.cell? ⟨o, 0, none⟩ = some v0 ∧ W'.cell? ⟨o, 1, none⟩ = some v1 ∧ W'.cell? ⟨o, 2, none⟩ = some v2 :=
  have hl : o < W.heap.size := Nat.lt_of_lt_of_le ho h.1.size
  ⟨h.1.trans (hb.mono h.1.size), (hb.cell (p := ⟨o, 0, none⟩) hl).trans h.2.1, (hb.cell (p := ⟨o, 1, none⟩) hl).trans h.2.2.1, (hb.cell (p := ⟨o, 2, none⟩) hl).trans h.2.2.2⟩

end Ev
end Go.Proofs.Ytdaafledkloegaa
/-
  Plain mathematics of P14.3, as the readers go: the head number by number, then the others. No program is named here.
-/
namespace Go.Proofs.Ytdaafledkloegaa
set_option linter.unusedVariables false
set_option linter.unusedSimpArgs false
namespace Ev
def stg (l : Dat) : Nat → RS
  | 0 => (0, 0)
  | 1 => (eI l).2
  | 2 => (eT l).2
  | _ => (eK l).2
def vls (l : Dat) : Nat → List Nat
  | 0 => []
  | 1 => [(eI l).1]
  | 2 => [(eI l).1, (eT l).1]
  | _ => [(eI l).1, (eT l).1, (eK l).1]
theorem stg_step (l : Dat) {q : Nat} (hq : q < 3) : rdV l (stg l q) = ((rdV l (stg l q)).1, stg l (q + 1)) ∧ vls l (q + 1) = vls l q ++ [(rdV l (stg l q)).1] := by
  match q, hq with
  | 0, _ => exact ⟨rfl, rfl⟩
  | 1, _ => exact ⟨rfl, rfl⟩
  | 2, _ => exact ⟨rfl, rfl⟩
theorem vls_len (l : Dat) {q : Nat} (hq : q ≤ 3) : (vls l q).length = q := by
  match q, hq with
  | 0, _ => rfl
  | 1, _ => rfl
  | 2, _ => rfl
  | 3, _ => rfl
theorem stg_le (l : Dat) (q : Nat) : (stg l q).1 ≤ l.length := by
  have l1 : (eI l).2.1 ≤ l.length := rdV_rd.le l (0, 0) (Nat.zero_le _)
  have l2 : (eT l).2.1 ≤ l.length := rdV_rd.le l _ l1
  have l3 : (eK l).2.1 ≤ l.length := rdV_rd.le l _ l2
  match q with
  | 0 => exact Nat.zero_le _
  | 1 => exact l1
  | 2 => exact l2
  | _ + 3 => exact l3
theorem dec_headerr {l : Dat} (h : (eK l).2.2 ≠ 0) : dec l = (zero, 0, (eK l).2.2) := by unfold dec; rw [if_pos h]
/-- what is wrong in the head is told -/
theorem stg_err {l : Dat} {q : Nat} (hq : q ≤ 3) (h : (stg l q).2 ≠ 0) : dec l = (zero, 0, (stg l q).2) := by
  have k1 : (eT l).2.2 ≠ 0 → (eK l).2 = (eT l).2 := fun h => rdV_rd.stuck l _ h
  have k2 : (eI l).2.2 ≠ 0 → (eT l).2 = (eI l).2 := fun h => rdV_rd.stuck l _ h
  match q, hq with
  | 0, _ => exact absurd rfl h
  | 1, _ =>
    have h : (eI l).2.2 ≠ 0 := h
    have e2 := k2 h
    have e1 := k1 (by rw [e2]; exact h)
    have := dec_headerr (l := l) (by rw [e1, e2]; exact h)
    rw [e1, e2] at this
    exact this
  | 2, _ =>
    have h : (eT l).2.2 ≠ 0 := h
    have e1 := k1 h
    have := dec_headerr (l := l) (by rw [e1]; exact h)
    rw [e1] at this
    exact this
  | 3, _ => exact dec_headerr h
theorem vl_le (l : Dat) (s : RS) : (rdV l s).1 ≤ 4611686018427387904 := by
  unfold rdV
  split
  · show 0 ≤ _; omega
  · split
    · show 0 ≤ _; omega
    · split
      · show 0 ≤ _; omega
      · show (Cd.takeU _).1 ≤ _; omega
theorem eV_in (l : Dat) : (eI l).1 ≤ 4611686018427387904 ∧ (eT l).1 ≤ 4611686018427387904 ∧ (eK l).1 ≤ 4611686018427387904 := ⟨vl_le l _, vl_le l _, vl_le l _⟩
/-- one number of the head, from what was taken -/
theorem rdV_take {l : Dat} {p n k e : Nat} (h : Cd.takeU (l.drop p) = (n, k, e)) : rdV l (p, 0) = if e ≠ 0 then (0, (p, e)) else if 4611686018427387904 < n then (0, (p, 54)) else (n, (p + k, 0)) := by
  unfold rdV; simp only [ne_eq, not_true_eq_false, if_false]; rw [h]
theorem rdI_take {l : Dat} {p n k e : Nat} (h : Cd.takeU (l.drop p) = (n, k, e)) : rdI l (p, 0) = if e ≠ 0 then (0, (p, e)) else (Cd.unzig n, (p + k, 0)) := by
  unfold rdI; simp only [ne_eq, not_true_eq_false, if_false]; rw [h]
theorem dec_kind {l : Dat} (h : (eK l).2.2 = 0) (hf : fields ((eK l).1 : Int) < 0) : dec l = (zero, 0, 54) := by
  unfold dec; rw [if_neg (by rw [h]; simp), if_pos hf]
theorem dec_numerr {l : Dat} (h : (eK l).2.2 = 0) (hf : ¬ fields ((eK l).1 : Int) < 0) (he : (eN l).2.2 ≠ 0) : dec l = (zero, 0, (eN l).2.2) := by
  unfold dec; rw [if_neg (by rw [h]; simp), if_neg hf, if_pos he]
theorem dec_bad {l : Dat} (h : (eK l).2.2 = 0) (hf : ¬ fields ((eK l).1 : Int) < 0) (he : (eN l).2.2 = 0) (hv : validB (eX l) = false) : dec l = (zero, 0, 54) := by
  unfold dec; rw [if_neg (by rw [h]; simp), if_neg hf, if_neg (by rw [he]; simp), if_neg (by rw [hv]; simp)]
theorem dec_good {l : Dat} (h : (eK l).2.2 = 0) (hf : ¬ fields ((eK l).1 : Int) < 0) (he : (eN l).2.2 = 0) (hv : validB (eX l) = true) : dec l = (eX l, (eN l).2.1, 0) := by
  unfold dec; rw [if_neg (by rw [h]; simp), if_neg hf, if_neg (by rw [he]; simp), if_pos hv]
/-- a number more -/
theorem rdNs_more (l : Dat) {k : Nat} (hk : 0 < k) (V : List Int) (p : Nat) : rdNs l k V (p, 0) = rdNs l (k - 1) (V ++ [(rdI l (p, 0)).1]) (rdI l (p, 0)).2 := by
  obtain ⟨j, rfl⟩ : ∃ j, k = j + 1 := ⟨k - 1, by omega⟩
  rw [rdNs]; simp
theorem rdNs_none (l : Dat) (V : List Int) (s : RS) : rdNs l 0 V s = (V, s) := rfl
theorem rdI_w64 (l : Dat) (s : RS) : W64 (rdI l s).1 := by
  have hz : W64 0 := ⟨by decide, by decide⟩
  unfold rdI
  split
  · exact hz
  · split
    · exact hz
    · have ho := (Cd.takeU_ok (l.drop s.1)).1
      generalize (Cd.takeU (l.drop s.1)).1 = n at *
      show W64 (Cd.unzig n)
      unfold Cd.unzig W64
      split <;> omega
theorem mk_in {i t k : Nat} {V : List Int} (hi : i ≤ 4611686018427387904) (ht : t ≤ 4611686018427387904) (hk : k ≤ 4611686018427387904) (hV : ∀ v ∈ V, W64 v) : EvIn (mk i t k V) := by
  have hg : ∀ j, W64 (V.getD j 0) := fun j => by
    by_cases hj : j < V.length
    · rw [List.getD_eq_getElem?_getD, List.getElem?_eq_getElem hj]; exact hV _ (List.getElem_mem hj)
    · rw [List.getD_eq_getElem?_getD, List.getElem?_eq_none (by omega)]; exact ⟨by decide, by decide⟩
  exact ⟨⟨by show (-9223372036854775808 : Int) ≤ (i : Int); omega, by show (i : Int) ≤ 9223372036854775807; omega⟩, ⟨by show (-9223372036854775808 : Int) ≤ (t : Int); omega, by show (t : Int) ≤ 9223372036854775807; omega⟩, ⟨by show (-9223372036854775808 : Int) ≤ (k : Int); omega, by show (k : Int) ≤ 9223372036854775807; omega⟩, hg 0, hg 1, hg 2, hg 3, hg 4, hg 5⟩
end Ev
end Go.Proofs.Ytdaafledkloegaa

/-
  codec.join: a range over a function that collects texts.
-/
namespace Go.Proofs.Ytdaafledkloegaa
open Go.RowKit Go.Shelf
set_option linter.unusedSimpArgs false
set_option linter.unusedVariables false

attribute [local go_sem] Oper.semAt_some

theorem wpListIn_append_own_string {F : Fence} {n' : Nat} {P : Program} {ops : Array Oper} {rest : List Oper} {o : Oper} {a : Act} {Q : Exit → Act → World → Prop} (w : World) (hgd : o.guard = none) (sl x : Operand) (t u : TypeId)
    (ho : o.op = .call { callee := .builtin .append, args := #[sl, x], argTypes := #[t, u] })
    (base : Nat) (e : TypeId) (i : TypeInfo) (ht : P.underlying t = some (.slice e)) (hu : P.underlying u = some .string) (hi : P.info? e = some i) (hz : i.zero = some (.int .u8 0))
    (hsize : i.size = 1) (hby : i.bytes = 1)
    (v : Value) (n : Nat) (xs : List Value) (hs : a.eval sl = v) (hown : w.ownsRow base e 1 v n xs) (s : ByteArray) (hx : a.eval x = .string s)
    (h63 : n + s.size ≤ maxLen) (hbytes : n + s.size ≤ 140737488355328) (hbase : base ≤ w.heap.size)
    (h : ∀ v' w', w'.ownsRow base e 1 v' (n + s.size) (xs ++ Lib.strCells s) → w.grownBy w' v.ownBlock → wpListIn F n' P ops Q rest (a.put o.dst v') w') : wpListIn F n' P ops Q (o :: rest) a w := by
  refine wpListIn_plain hgd fun K hK => ?_
  obtain ⟨v', w', hr, h2, h3, h4⟩ := Lib.run_append_own_string (P := P) w base t u o.type e i ht hu hi hz hsize hby v n xs hown s h63 hbytes hbase
  unfold Oper.wpIn
  refine ⟨?_, ?_⟩
  · simp [Oper.about, ho, resolve, Target.leads, Sem.run_pure]
  · rw [Oper.semAt_plain F _ _ (by rw [ho]; intro c hc'; cases hc')]
    simp [execOp, ho, resolve, invoke, builtin, hs, hx, hr, Result.andThen]
    exact hK _ _ (h v' w' h2 h3)

/-- a text that a range hands on: of at most so many bytes -/
abbrev Piece := { x : List UInt8 // x.length ≤ 1048576 }
def flat (pre : List Piece) : List UInt8 := (pre.map (·.1)).flatten
theorem flat_snoc (pre : List Piece) (x : Piece) : flat (pre ++ [x]) = flat pre ++ x.1 := by simp [flat]
theorem flat_len (pre : List Piece) : (flat pre).length ≤ pre.length * 1048576 := by
  induction pre with
  | nil => simp [flat]
  | cons x r ih =>
    have : flat (x :: r) = x.1 ++ flat r := by simp [flat]
    rw [this, List.length_append, List.length_cons]
    have := x.2
    omega
theorem ownsRow_slice {W : World} {base : Nat} {e : TypeId} {size : Nat} {v : Value} {k : Nat} {xs : List Value} (h : W.ownsRow base e size v k xs) : ∃ ao l cap, v = .slice ao l cap := by
  rcases h.2 with ⟨rfl, _⟩ | ⟨g, cap, _, rfl, _⟩
  · exact ⟨_, _, _, rfl⟩
  · exact ⟨_, _, _, rfl⟩
theorem stops_mono {α : Type} {F : Fence} {n : Nat} {P : Program} {g : Nat} {lb : Array Value} {encs : α → Array Value} {Kp : World → World → Prop} {S Sp : List α → Prop} {N : Nat} {w w0 : World}
    (h : SeqStopsK F n P g lb encs Kp S Sp N w) (hb : Below w.heap.size w w0) : SeqStopsK F n P g lb encs Kp S Sp N w0 :=
  fun l J Jx W hW => h l J Jx W (hb.trans (hW.mono hb.size))

/-- 'Boxed.appended' where the append laid no block of its own ahead -/
theorem Boxed_appended' {W w1 : World} {n₀ B : Nat} {t e : TypeId} {size : Nat} {v v' : Value} {k m : Nat} {xs ys : List Value}
    (hv : Boxed W B t v) (hte : t ≠ e) (hrow : W.ownsRow n₀ e size v k xs) (hn₀ : n₀ ≤ W.heap.size) (hB : n₀ ≤ B)
    (hown' : w1.ownsRow n₀ e size v' m ys) (hgrow : W.grownBy w1 v.ownBlock) :
    Boxed w1 B t v ∧ Boxed (w1.setCell ⟨B, 0, none⟩ v') B t v' ∧ (w1.setCell ⟨B, 0, none⟩ v').ownsRow n₀ e size v' m ys ∧ KeepsOthers W (w1.setCell ⟨B, 0, none⟩ v') ∧ Below n₀ W (w1.setCell ⟨B, 0, none⟩ v') := by
  have hv1 : Boxed w1 B t v := hv.kept hgrow (hv.not_row hte hrow)
  refine ⟨hv1, hv1.set v', hown'.kept (grownBy_setCell' w1 B v') (.inr (hv1.not_row hte hown').symm), ?_, ?_⟩
  · refine (KeepsOthers.of_grownBy hgrow fun j o ej hj => ?_).trans (KeepsOthers.setCell _ _ _)
    rcases hrow.2 with ⟨rfl, _⟩ | ⟨g, cap, cur, rfl, _, hgb, _⟩
    · simp [Value.ownBlock] at ej
    · obtain rfl : g = j := by simpa [Value.ownBlock] using ej
      rw [hgb] at hj; cases hj; rfl
  · refine ((Below.refl n₀ W).grown hgrow hn₀ fun j ej => ?_).setCell (p := ⟨B, 0, none⟩) hB v'
    rcases hrow.2 with ⟨rfl, _⟩ | ⟨g, cap, cur, rfl, hb, _, _⟩
    · simp [Value.ownBlock] at ej
    · obtain rfl : g = j := by simpa [Value.ownBlock] using ej
      exact hb

end Go.Proofs.Ytdaafledkloegaa
/-
  slices.Values over texts, and PutText, which joins two of them.
-/
namespace Go.Proofs.Ytdaafledkloegaa
open Go.RowKit Go.Shelf
set_option linter.unusedSimpArgs false
set_option linter.unusedVariables false

attribute [local go_sem] Oper.semAt_some

/-- what has come when k rounds are over: f 0, .., f (k - 1) -/
def upto {α : Type} (f : Nat → α) (k : Nat) : List α := (List.range k).map f
theorem upto_succ {α : Type} (f : Nat → α) (k : Nat) : upto f (k + 1) = upto f k ++ [f k] := by simp [upto, List.range_succ]
theorem upto_length {α : Type} (f : Nat → α) (k : Nat) : (upto f k).length = k := by simp [upto]

end Go.Proofs.Ytdaafledkloegaa
namespace Go.Proofs.Ytdaafledkloegaa
open Go.RowKit
set_option linter.unusedSimpArgs false
set_option linter.unusedVariables false

end Go.Proofs.Ytdaafledkloegaa
namespace Go.Proofs.Ytdaafledkloegaa
open Go.RowKit
set_option linter.unusedSimpArgs false
set_option linter.unusedVariables false

theorem bcell {W w1 : World} (hb : Below W.heap.size W w1) : (∀ b o, b < W.heap.size → w1.cell? ⟨b, o, none⟩ = W.cell? ⟨b, o, none⟩) ∧ (∀ b o, b < W.heap.size → w1.frozen? ⟨b, o, none⟩ = W.frozen? ⟨b, o, none⟩) :=
  ⟨fun b o h => hb.cell (p := ⟨b, o, none⟩) h, fun b o h => hb.frozen (p := ⟨b, o, none⟩) h⟩

end Go.Proofs.Ytdaafledkloegaa
namespace Go.Proofs.Ytdaafledkloegaa
open Go.RowKit
set_option linter.unusedSimpArgs false
set_option linter.unusedVariables false

/-- a frame's answer as Go hands it back -/
abbrev frameV (r : (UInt8 × List UInt8) × Nat × Nat) : Value := .tuple #[.agg #[.int .u8 (r.1.1.toNat : Int), .string (Cd.bs r.1.2)], .int .i64 r.2.1, .int .i64 r.2.2]

end Go.Proofs.Ytdaafledkloegaa
namespace Go.Proofs.Ytdaafledkloegaa
open Go.RowKit
set_option linter.unusedSimpArgs false
set_option linter.unusedVariables false

/-- frames with their places, as cells -/
def atCells (out : List (Nat × (UInt8 × List UInt8))) : List Value := (out.map fun x => [Value.int .i64 x.1, .int .u8 x.2.1.toNat, .string (Cd.bs x.2.2)]).flatten
theorem atCells_snoc (out : List (Nat × (UInt8 × List UInt8))) (x : Nat × (UInt8 × List UInt8)) : atCells (out ++ [x]) = atCells out ++ [.int .i64 x.1, .int .u8 x.2.1.toNat, .string (Cd.bs x.2.2)] := by simp [atCells]
theorem cell_three_new (w : World) (a b c : Value) (t : TypeId) : ∀ j u, [a, b, c][j]? = some u → (w.alloc (.cells #[a, b, c] t)).cell? ((⟨w.heap.size, 0, none⟩ : Addr).add j) = some u := by
  intro j u hj
  match j, hj with
  | 0, hj => simp at hj; subst hj; simp [Addr.add]
  | 1, hj => simp at hj; subst hj; simp [Addr.add]
  | 2, hj => simp at hj; subst hj; simp [Addr.add]
  | (j + 3), hj => simp at hj

/-- what is owned stays owned behind whatever keeps the blocks that there are -/
theorem own_below {W w : World} {base : Nat} {e : TypeId} {size : Nat} {v : Value} {n : Nat} {xs : List Value} (h : W.ownsRow base e size v n xs) (hb : Below W.heap.size W w) : w.ownsRow base e size v n xs := by
  refine ⟨h.1, ?_⟩
  rcases h.2 with h | ⟨g, cap, cur, h1, h2, h3, h4⟩
  · exact .inl h
  · exact .inr ⟨g, cap, cur, h1, h2, (hb.block g (Array.getElem?_eq_some_iff.1 h3).1).trans h3, h4⟩

end Go.Proofs.Ytdaafledkloegaa