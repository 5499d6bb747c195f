import Derived.Deep.DeepCutAuto
import Derived.Deep.QuietTactic
import Derived.BigQuiet
import Derived.BigRegion
import Derived.Test.YtojbcdkiilcppaaPart2
/-
  Plain mathematics of chapter 5 (wal): puts, batches, their loads; a load tells its batch. No program is named here.
-/
namespace Go.Proofs.Ytojbcdkiilcppaa
namespace Cd
/-- what is read as a number is just that number's bytes -/
theorem takeGo_canon (l : List UInt8) : ∀ (i acc n j : Nat), i ≤ 9 → takeGo l i acc = (n, j, 0) → ∃ m, n = acc + m * 128 ^ i ∧ j = i + (putU m).length ∧ l = putU m ++ l.drop (putU m).length ∧ (0 < i → m ≠ 0) := by
  induction l with
  | nil => intro i acc n j _ h; simp [takeGo] at h
  | cons c r ih =>
    intro i acc n j hi h
    by_cases hbad : (i = 9 ∧ 1 < c.toNat) ∨ (0 < i ∧ c.toNat = 0)
    · rw [go_bad hbad] at h; simp at h
    · have hcb := c.toNat_lt
      by_cases hc : c.toNat < 128
      · rw [go_last hbad hc] at h
        have hp : putU c.toNat = [c] := by rw [putU, if_pos hc]; simp
        refine ⟨c.toNat, ?_, ?_, ?_, fun h0 e => hbad (.inr ⟨h0, e⟩)⟩
        · have := congrArg (·.1) h; simp only at this; rw [← this, Nat.mod_eq_of_lt hc]
        · have := congrArg (·.2.1) h; simp only at this; rw [hp]; exact this.symm
        · rw [hp]; rfl
      · rw [go_more hbad (by omega)] at h
        have hi9 : i + 1 ≤ 9 := by
          by_cases h9 : i = 9
          · exact absurd (.inl ⟨h9, by omega⟩) hbad
          · omega
        obtain ⟨m', h1, h2, h3, h4⟩ := ih (i + 1) _ n j hi9 h
        have hm0 := h4 (by omega)
        refine ⟨c.toNat % 128 + 128 * m', ?_, ?_, ?_, fun _ => by omega⟩
        · rw [h1, pow_s, Nat.add_mul, ← Nat.add_assoc]; congr 1; rw [← Nat.mul_assoc, Nat.mul_comm m' 128]
        · have e : putU (c.toNat % 128 + 128 * m') = UInt8.ofNat ((c.toNat % 128 + 128 * m') % 128 + 128) :: putU ((c.toNat % 128 + 128 * m') / 128) := by rw [putU, if_neg (by omega)]
          rw [e, show (c.toNat % 128 + 128 * m') / 128 = m' by omega, List.length_cons, h2]; omega
        · have e : putU (c.toNat % 128 + 128 * m') = UInt8.ofNat ((c.toNat % 128 + 128 * m') % 128 + 128) :: putU ((c.toNat % 128 + 128 * m') / 128) := by rw [putU, if_neg (by omega)]
          have ec : UInt8.ofNat ((c.toNat % 128 + 128 * m') % 128 + 128) = c := by
            rw [show (c.toNat % 128 + 128 * m') % 128 + 128 = c.toNat by omega]; simp
          rw [e, ec, show (c.toNat % 128 + 128 * m') / 128 = m' by omega, List.length_cons, List.drop_succ_cons, List.cons_append, ← h3]
theorem takeU_canon {l : List UInt8} {n k : Nat} (h : takeU l = (n, k, 0)) : l = putU n ++ l.drop k := by
  obtain ⟨m, h1, h2, h3, _⟩ := takeGo_canon l 0 0 n k (by omega) h
  obtain rfl : n = m := by simpa using h1
  rw [show k = (putU n).length by omega]
  exact h3
theorem takeT_canon {l t : List UInt8} {most : Int} {k : Nat} (h : takeT l most = (t, k, 0)) : l = putT t ++ l.drop k := by
  obtain ⟨n, k0, e, hu⟩ : ∃ n k0 e, takeU l = (n, k0, e) := ⟨_, _, _, rfl⟩
  by_cases he : e = 0
  · subst he
    have hl := (takeU_ok l).2.2.1
    rw [hu] at hl
    simp only at hl
    by_cases h1 : most.toNat < n
    · rw [takeT_most hu h1] at h; simp at h
    · by_cases h2 : l.length - k0 < n
      · rw [takeT_more hu (by omega) h2] at h; simp at h
      · rw [takeT_text hu (by omega) (by omega)] at h
        obtain rfl : (l.drop k0).take n = t := congrArg (·.1) h
        obtain rfl : k0 + n = k := congrArg (·.2.1) h
        have hc := takeU_canon hu
        unfold putT
        have hlen : ((l.drop k0).take n).length = n := by rw [List.length_take, List.length_drop]; omega
        rw [hlen, List.append_assoc, ← List.drop_drop, List.take_append_drop]
        exact hc
  · rw [takeT_err hu he] at h
    exact absurd (congrArg (·.2.2) h) he
end Cd

namespace Wa
open Fi (Dat TkS tkNum tkText)
abbrev putT : Gn.Ty := .struct (.cons .str (.cons .str (.cons .bool .nil)))
abbrev batchT : Gn.Ty := .struct (.cons (.int .u64) (.cons (.slice putT) .nil))
/-- a put: its key, its value, whether it takes away -/
abbrev Pt := List UInt8 × List UInt8 × Bool × Unit
abbrev Bt := Int × List Pt × Unit
/-- P5.2: may a put be? -/
def mayB (p : Pt) : Bool := decide (1 ≤ p.1.length) && decide (p.1.length ≤ 96) && decide (p.2.1.length ≤ 16384) && (!p.2.2.1 || decide (p.2.1 = []))
/-- P5.3: a put as bytes -/
def putB (p : Pt) : Dat := if p.2.2.1 = true then 1 :: Cd.putT p.1 else 0 :: (Cd.putT p.1 ++ Cd.putT p.2.1)
def load (seq : Nat) (l : List Pt) : Dat := Cd.putU seq ++ Cd.putU l.length ++ l.flatMap putB
def MaxSeq : Nat := 1125899906842624
/-- P5.2: Check -/
def check (l : List Pt) : Nat := if l.length ≤ 256 ∧ (∀ p ∈ l, mayB p = true) ∧ (load MaxSeq l).length ≤ 262144 then 0 else 1
/-- P5.3: may a batch be? -/
def Right (b : Bt) : Prop := check b.2.1 = 0 ∧ 0 < b.2.1.length ∧ 1 ≤ b.1 ∧ b.1 ≤ MaxSeq ∧ b.1 + b.2.1.length - 1 ≤ MaxSeq
instance (b : Bt) : Decidable (Right b) := by unfold Right; infer_instance
/-- P5.3: Encode -/
def encode (b : Bt) : Dat × Nat := if Right b then Fr.put 2 (load b.1.toNat b.2.1) else ([], 1)
def IsLoad (l : Dat) (b : Bt) : Prop := Right b ∧ load b.1.toNat b.2.1 = l
open Classical in
/-- P5.4: Decode -/
noncomputable def decode (l : Dat) : Option Bt := if h : ∃ b, IsLoad l b then some h.choose else none
def last (b : Bt) : Int := b.1 + b.2.1.length - 1
/-- P5.5, over the frames that stand one behind the other: each with its place; the place behind all -/
noncomputable def repGo : List (Nat × (UInt8 × Dat)) → Int → Nat → List Bt × Nat
  | [], _, e => ([], e)
  | x :: r, seq, e =>
    match (if x.2.1 = 2 then decode x.2.2 else none) with
    | some b => if seq < b.1 then (b :: (repGo r (last b) e).1, (repGo r (last b) e).2) else ([], x.1)
    | none => ([], x.1)
noncomputable def replay (s : Dat) : List Bt × Nat := repGo (Fr.allGo s 0).1 0 (Fr.allGo s 0).2

/-! ### a load tells its batch -/
theorem putB_inj {p q : Pt} {x y : Dat} (hp : mayB p = true) (hq : mayB q = true) (h : putB p ++ x = putB q ++ y) : p = q ∧ x = y := by
  obtain ⟨pk, pv, pd, _⟩ := p
  obtain ⟨qk, qv, qd, _⟩ := q
  simp [mayB] at hp hq
  cases pd <;> cases qd <;> simp only [putB, if_true, if_false, Bool.false_eq_true, List.cons_append] at h
  · have h' := List.cons.inj h
    have h2 := h'.2
    rw [List.append_assoc, List.append_assoc] at h2
    obtain ⟨e1, h3⟩ := Fi.putT_inj (by omega) (by omega) h2
    obtain ⟨e2, h4⟩ := Fi.putT_inj (by omega) (by omega) h3
    exact ⟨by rw [e1, e2], h4⟩
  · exact absurd (List.cons.inj h).1 (by decide)
  · exact absurd (List.cons.inj h).1 (by decide)
  · obtain ⟨e1, h3⟩ := Fi.putT_inj (by omega) (by omega) (List.cons.inj h).2
    have v1 := hp.2
    have v2 := hq.2
    simp at v1 v2
    exact ⟨by rw [e1, v1, v2], h3⟩
theorem puts_inj : ∀ {L L' : List Pt} {x y : Dat}, L.length = L'.length → (∀ p ∈ L, mayB p = true) → (∀ p ∈ L', mayB p = true) → L.flatMap putB ++ x = L'.flatMap putB ++ y → L = L' ∧ x = y
  | [], [], x, y, _, _, _, h => ⟨rfl, by simpa using h⟩
  | [], q :: r, _, _, hl, _, _, _ => by simp at hl
  | p :: r, [], _, _, hl, _, _, _ => by simp at hl
  | p :: r, q :: r', x, y, hl, hp, hq, h => by
    rw [List.flatMap_cons, List.flatMap_cons, List.append_assoc, List.append_assoc] at h
    obtain ⟨h1, h2⟩ := putB_inj (hp p (List.mem_cons_self ..)) (hq q (List.mem_cons_self ..)) h
    obtain ⟨h3, h4⟩ := puts_inj (by simpa using hl) (fun z hz => hp z (List.mem_cons_of_mem _ hz)) (fun z hz => hq z (List.mem_cons_of_mem _ hz)) h2
    exact ⟨by rw [h1, h3], h4⟩
theorem check_ok {l : List Pt} (h : check l = 0) : l.length ≤ 256 ∧ (∀ p ∈ l, mayB p = true) ∧ (load MaxSeq l).length ≤ 262144 := by
  unfold check at h
  split at h
  · assumption
  · cases h
theorem isLoad_same {l : Dat} {b c : Bt} (h1 : IsLoad l b) (h2 : IsLoad l c) : b = c := by
  obtain ⟨⟨r1, r2, r3, r4, r5⟩, e1⟩ := h1
  obtain ⟨⟨s1, s2, s3, s4, s5⟩, e2⟩ := h2
  obtain ⟨bs, bp, _⟩ := b
  obtain ⟨cs, cp, _⟩ := c
  simp only at *
  obtain ⟨k1, k2, _⟩ := check_ok r1
  obtain ⟨m1, m2, _⟩ := check_ok s1
  have hM : MaxSeq = 1125899906842624 := rfl
  rw [← e2] at e1
  unfold load at e1
  rw [List.append_assoc, List.append_assoc] at e1
  obtain ⟨a1, a2⟩ := Fi.putU_inj (by omega) (by omega) e1
  obtain ⟨b1, b2⟩ := Fi.putU_inj (by omega) (by omega) a2
  obtain ⟨c1, _⟩ := puts_inj (x := []) (y := []) b1 k2 m2 (by simpa using b2)
  rw [c1, show bs = cs by omega]
theorem decode_iff {l : Dat} {b : Bt} : decode l = some b ↔ IsLoad l b := by
  unfold decode
  constructor
  · intro h
    split at h
    · rename_i hx
      rw [← Option.some.inj h]
      exact hx.choose_spec
    · cases h
  · intro h
    have hx : ∃ b, IsLoad l b := ⟨b, h⟩
    rw [dif_pos hx]
    exact congrArg some (isLoad_same hx.choose_spec h)
theorem decode_none {l : Dat} : decode l = none ↔ ∀ b, ¬ IsLoad l b := by
  unfold decode
  constructor
  · intro h b hb
    rw [dif_pos ⟨b, hb⟩] at h
    cases h
  · intro h
    rw [dif_neg (fun ⟨b, hb⟩ => h b hb)]

/-! ### reading one, thing by thing, as the document does -/
def rdPut (s : TkS) : Pt × TkS :=
  if (tkNum 1 s).1 = 0 then (((tkText 96 (tkNum 1 s).2).1, (tkText 16384 (tkText 96 (tkNum 1 s).2).2).1, false, ()), (tkText 16384 (tkText 96 (tkNum 1 s).2).2).2)
  else (((tkText 96 (tkNum 1 s).2).1, [], true, ()), (tkText 96 (tkNum 1 s).2).2)
def rdPuts : Nat → List Pt → TkS → List Pt × TkS
  | 0, l, s => (l, s)
  | k + 1, l, s => if s.2 = true then (l, s) else rdPuts k (l ++ [(rdPut s).1]) (rdPut s).2
def rdCount (s : TkS) : Nat × TkS := tkNum 256 (tkNum MaxSeq s).2
def rdAll (s : TkS) : List Pt × TkS := rdPuts (rdCount s).1 [] (rdCount s).2
def rdB (l : Dat) : Bt := (((tkNum MaxSeq (l, false)).1 : Int), (rdAll (l, false)).1, ())
def decR (l : Dat) : Option Bt := if (rdAll (l, false)).2 = ([], false) ∧ Right (rdB l) then some (rdB l) else none

theorem tkNum_sound {most : Nat} {s : TkS} (h : (tkNum most s).2.2 = false) : s.2 = false ∧ s.1 = Cd.putU (tkNum most s).1 ++ (tkNum most s).2.1 := by
  unfold tkNum at h ⊢
  split at h
  · simp at h
  · rename_i hx
    rw [if_neg hx]
    simp only at h ⊢
    refine ⟨h, Cd.takeU_canon (k := (Cd.takeU s.1).2.1) ?_⟩
    have h0 : (Cd.takeU s.1).2.2 = 0 := by
      by_cases h0 : (Cd.takeU s.1).2.2 = 0
      · exact h0
      · exact absurd (.inr (.inl h0)) hx
    rw [← h0]
theorem tkText_sound {most : Nat} {s : TkS} (h : (tkText most s).2.2 = false) : s.2 = false ∧ s.1 = Cd.putT (tkText most s).1 ++ (tkText most s).2.1 := by
  unfold tkText at h ⊢
  split at h
  · simp at h
  · rename_i hx
    rw [if_neg hx]
    simp only at h ⊢
    refine ⟨h, Cd.takeT_canon (most := most) (k := (Cd.takeT s.1 most).2.1) ?_⟩
    have h0 : (Cd.takeT s.1 most).2.2 = 0 := by
      by_cases h0 : (Cd.takeT s.1 most).2.2 = 0
      · exact h0
      · exact absurd (.inr h0) hx
    rw [← h0]
theorem putU_0 : Cd.putU 0 = [0] := by rw [Cd.putU]; rfl
theorem putU_1 : Cd.putU 1 = [1] := by rw [Cd.putU]; rfl
theorem rdPut_sound {s : TkS} (h : (rdPut s).2.2 = false) : s.2 = false ∧ s.1 = putB (rdPut s).1 ++ (rdPut s).2.1 := by
  unfold rdPut at h ⊢
  split at h
  · rename_i hx
    rw [if_pos hx]
    simp only at h ⊢
    obtain ⟨h1, e1⟩ := tkText_sound h
    obtain ⟨h2, e2⟩ := tkText_sound h1
    obtain ⟨h3, e3⟩ := tkNum_sound h2
    refine ⟨h3, ?_⟩
    rw [hx, putU_0] at e3
    rw [e3, e2, e1]
    simp [putB]
  · rename_i hx
    rw [if_neg hx]
    simp only at h ⊢
    obtain ⟨h2, e2⟩ := tkText_sound h
    obtain ⟨h3, e3⟩ := tkNum_sound h2
    have hle := Fi.tkNum_le 1 s
    refine ⟨h3, ?_⟩
    rw [show (tkNum 1 s).1 = 1 by omega, putU_1] at e3
    rw [e3, e2]
    simp [putB]
theorem rdPuts_sound : ∀ (k : Nat) (l : List Pt) (s : TkS), (rdPuts k l s).2.2 = false → s.2 = false ∧ ∃ L, (rdPuts k l s).1 = l ++ L ∧ L.length = k ∧ s.1 = L.flatMap putB ++ (rdPuts k l s).2.1
  | 0, l, s, h => ⟨h, [], by simp [rdPuts], rfl, by simp [rdPuts]⟩
  | k + 1, l, s, h => by
    rw [rdPuts] at h ⊢
    split at h
    · rename_i hs; rw [hs] at h; cases h
    · rename_i hs
      rw [if_neg hs]
      obtain ⟨h1, L, e1, e2, e3⟩ := rdPuts_sound k _ _ h
      obtain ⟨h2, e4⟩ := rdPut_sound h1
      exact ⟨h2, (rdPut s).1 :: L, by rw [e1, List.append_assoc]; rfl, by rw [List.length_cons, e2], by rw [List.flatMap_cons, List.append_assoc, ← e3]; exact e4⟩
theorem rdPut_put {p : Pt} {x : Dat} (hp : mayB p = true) : rdPut (putB p ++ x, false) = (p, (x, false)) := by
  obtain ⟨pk, pv, pd, _⟩ := p
  simp [mayB] at hp
  cases pd
  · have e1 : tkNum 1 (putB (pk, pv, false, ()) ++ x, false) = (0, (Cd.putT pk ++ (Cd.putT pv ++ x), false)) := by
      have := Fi.tkNum_put (most := 1) (a := 0) (Cd.putT pk ++ (Cd.putT pv ++ x)) (by omega) (by omega)
      rw [putU_0] at this
      simpa [putB] using this
    unfold rdPut
    rw [e1]
    simp only [if_true]
    rw [Fi.tkText_put _ (by omega) (by omega)]
    simp only
    rw [Fi.tkText_put _ (by omega) (by omega)]
  · have e1 : tkNum 1 (putB (pk, pv, true, ()) ++ x, false) = (1, (Cd.putT pk ++ x, false)) := by
      have := Fi.tkNum_put (most := 1) (a := 1) (Cd.putT pk ++ x) (by omega) (by omega)
      rw [putU_1] at this
      simpa [putB] using this
    unfold rdPut
    rw [e1]
    simp only
    rw [if_neg (by omega), Fi.tkText_put _ (by omega) (by omega)]
    have := hp.2
    simp at this
    rw [this]
theorem rdPuts_put : ∀ (L l : List Pt) (x : Dat), (∀ p ∈ L, mayB p = true) → rdPuts L.length l (L.flatMap putB ++ x, false) = (l ++ L, (x, false))
  | [], l, x, _ => by simp [rdPuts]
  | p :: r, l, x, h => by
    rw [List.length_cons, rdPuts, if_neg (by simp), List.flatMap_cons, List.append_assoc, rdPut_put (h p (List.mem_cons_self ..))]
    simp only
    rw [rdPuts_put r _ x (fun q hq => h q (List.mem_cons_of_mem _ hq)), List.append_assoc]
    rfl
theorem decR_decode (l : Dat) : decR l = decode l := by
  have hM : MaxSeq = 1125899906842624 := rfl
  cases hd : decode l with
  | some b =>
    obtain ⟨hr, hl⟩ := decode_iff.1 hd
    have hr0 := hr
    obtain ⟨r1, r2, r3, r4, r5⟩ := hr
    obtain ⟨k1, k2, _⟩ := check_ok r1
    have e1 : tkNum MaxSeq (l, false) = (b.1.toNat, (Cd.putU b.2.1.length ++ (b.2.1.flatMap putB ++ []), false)) := by
      rw [← hl]; unfold load
      rw [List.append_assoc, List.append_nil]
      exact Fi.tkNum_put _ (by omega) (by omega)
    have e2 : rdCount (l, false) = (b.2.1.length, (b.2.1.flatMap putB ++ [], false)) := by
      unfold rdCount
      rw [e1]
      exact Fi.tkNum_put _ k1 (by omega)
    have e3 : rdAll (l, false) = (b.2.1, ([], false)) := by
      unfold rdAll
      rw [e2]
      have := rdPuts_put b.2.1 [] [] k2
      simpa using this
    have e4 : rdB l = b := by
      unfold rdB
      rw [e3, e1]
      obtain ⟨bs, bp, _⟩ := b
      simp only at r3 ⊢
      rw [show ((bs.toNat : Nat) : Int) = bs by omega]
    unfold decR
    rw [e3, e4, if_pos ⟨rfl, hr0⟩]
  | none =>
    have hn := decode_none.1 hd
    unfold decR
    split
    · rename_i h
      refine absurd ⟨h.2, ?_⟩ (hn (rdB l))
      have h1 := h.1
      have hb : (rdPuts (rdCount (l, false)).1 [] (rdCount (l, false)).2).2.2 = false := congrArg (·.2) h1
      obtain ⟨g1, L, g2, g3, g4⟩ := rdPuts_sound _ _ _ hb
      have hrest : (rdPuts (rdCount (l, false)).1 [] (rdCount (l, false)).2).2.1 = [] := congrArg (·.1) h1
      rw [hrest, List.append_nil] at g4
      obtain ⟨g5, g6⟩ := tkNum_sound (s := (tkNum MaxSeq (l, false)).2) (most := 256) g1
      obtain ⟨_, g7⟩ := tkNum_sound (s := (l, false)) (most := MaxSeq) g5
      have hL : (rdB l).2.1 = L := by unfold rdB rdAll; rw [g2]; rfl
      unfold load
      rw [hL]
      show Cd.putU (((tkNum MaxSeq (l, false)).1 : Int)).toNat ++ Cd.putU L.length ++ L.flatMap putB = l
      have g7' : l = Cd.putU (tkNum MaxSeq (l, false)).1 ++ (tkNum MaxSeq (l, false)).2.1 := g7
      have hk : L.length = (tkNum 256 (tkNum MaxSeq (l, false)).2).1 := g3
      rw [Int.toNat_natCast, hk, List.append_assoc, ← g4]
      exact (congrArg (Cd.putU (tkNum MaxSeq (l, false)).1 ++ ·) g6).symm.trans g7'.symm
    · rfl
end Wa
end Go.Proofs.Ytojbcdkiilcppaa

/-
  Plain mathematics of chapter 14: events as numbers, and as bytes. No program is named here.
-/
namespace Go.Proofs.Ytojbcdkiilcppaa
set_option linter.unusedVariables false
set_option linter.unusedSimpArgs false
namespace Ev
abbrev Dat : Type := List UInt8
def W64 (x : Int) : Prop := -9223372036854775808 ≤ x ∧ x ≤ 9223372036854775807
structure Evt where
  id : Int
  time : Int
  kind : Int
  a : Int
  b : Int
  c : Int
  d : Int
  e : Int
  f : Int
deriving DecidableEq
structure EvIn (x : Evt) : Prop where
  id : W64 x.id
  time : W64 x.time
  kind : W64 x.kind
  a : W64 x.a
  b : W64 x.b
  c : W64 x.c
  d : W64 x.d
  e : W64 x.e
  f : W64 x.f
def tab : List Int := [-1, 6, 1, 2, 1, 2, 1, 1, 1, 3, 2, 1, 1, 2, 3, 1, 1, 1, 2, 3, 1, 3, 3, 3, 3, 1, 2, 2, 3, 2, 1, 0]
/-- P14.1 -/
def fields (k : Int) : Int := if k < 1 ∨ 31 < k then -1 else tab.getD k.toNat (-1)
def command (k : Int) : Bool := decide (3 ≤ k) && decide (k ≤ 18)
def closing (k : Int) : Bool := (decide (15 ≤ k) && decide (k ≤ 18)) || decide (k = 30) || decide (k = 31)
theorem tab_in : ∀ n : Nat, n < 32 → -1 ≤ tab.getD n (-1) ∧ tab.getD n (-1) ≤ 6 := by decide
theorem fields_in (k : Int) : -1 ≤ fields k ∧ fields k ≤ 6 := by
  unfold fields
  split
  · exact ⟨by omega, by omega⟩
  · exact tab_in _ (by omega)
def nums (x : Evt) : List Int := [x.a, x.b, x.c, x.d, x.e, x.f]
/-- what a kind's k'th number may be -/
def span (kind : Int) (k : Nat) : Int × Int :=
  if (k = 0 ∧ (kind = 1 ∨ kind = 3 ∨ kind = 5 ∨ kind = 19 ∨ kind = 21)) ∨ (k = 1 ∧ kind = 9) then (0, 7)
  else if (k = 0 ∧ (kind = 2 ∨ (6 ≤ kind ∧ kind ≤ 9) ∨ (12 ≤ kind ∧ kind ≤ 14) ∨ (22 ≤ kind ∧ kind ≤ 29))) ∨ (k = 2 ∧ 22 ≤ kind ∧ kind ≤ 24) ∨ (k = 1 ∧ (kind = 18 ∨ kind = 26)) then (1, 9223372036854775807)
  else if (kind = 1 ∧ 2 ≤ k) ∨ (k = 0 ∧ (kind = 4 ∨ kind = 20)) ∨ (k = 2 ∧ (kind = 19 ∨ kind = 21)) then (0, 9223372036854775807)
  else if kind = 10 ∧ k = 0 then (0, 3)
  else if kind = 14 ∧ k = 2 then (0, 1)
  else if kind = 24 ∧ k = 1 then (1, 4)
  else if kind = 28 ∧ k = 2 then (0, 4)
  else (-9223372036854775808, 9223372036854775807)
def numB (kind : Int) (k : Nat) (v : Int) : Bool := if (k : Int) < fields kind then decide ((span kind k).1 ≤ v) && decide (v ≤ (span kind k).2) else decide (v = 0)
/-- P14.2 -/
def validB (x : Evt) : Bool :=
  decide (0 ≤ fields x.kind) && decide (1 ≤ x.id) && decide (x.id ≤ 256) && decide (0 ≤ x.time) && decide (x.time ≤ 1099511627776) &&
  (numB x.kind 0 x.a && numB x.kind 1 x.b && numB x.kind 2 x.c && numB x.kind 3 x.d && numB x.kind 4 x.e && numB x.kind 5 x.f)
def putV (d : Int) : Dat := Cd.putU d.toNat
def putI (a : Int) : Dat := Cd.putU (Cd.zig a)
def many (x : Evt) : Nat := (fields x.kind).toNat
def load (x : Evt) : Dat := putV x.id ++ putV x.time ++ putV x.kind ++ ((nums x).take (many x)).flatMap putI
/-- P14.3 -/
def enc (x : Evt) : Dat × Nat := if validB x = true then (load x, 0) else ([], 54)
theorem valid_at {x : Evt} (h : validB x = true) : 0 ≤ fields x.kind ∧ 1 ≤ x.id ∧ x.id ≤ 256 ∧ 0 ≤ x.time ∧ x.time ≤ 1099511627776 ∧ numB x.kind 0 x.a = true ∧ numB x.kind 1 x.b = true ∧ numB x.kind 2 x.c = true ∧ numB x.kind 3 x.d = true ∧ numB x.kind 4 x.e = true ∧ numB x.kind 5 x.f = true := by
  unfold validB at h
  simp only [Bool.and_eq_true, decide_eq_true_eq] at h
  obtain ⟨⟨⟨⟨⟨h1, h2⟩, h3⟩, h4⟩, h5⟩, ⟨⟨⟨⟨⟨n0, n1⟩, n2⟩, n3⟩, n4⟩, n5⟩⟩ := h
  exact ⟨h1, h2, h3, h4, h5, n0, n1, n2, n3, n4, n5⟩
theorem kind_in {k : Int} (h : 0 ≤ fields k) : 1 ≤ k ∧ k ≤ 31 := by
  unfold fields at h
  split at h
  · omega
  · omega
theorem numB_zero {kind : Int} {k : Nat} {v : Int} (h : numB kind k v = true) (hk : ¬ (k : Int) < fields kind) : v = 0 := by
  unfold numB at h
  rw [if_neg hk] at h
  simpa using h

/-! where a reader stands, and what was wrong first -/
abbrev RS : Type := Nat × Nat
def rdV (l : Dat) (s : RS) : Nat × RS :=
  if s.2 ≠ 0 then (0, s) else if (Cd.takeU (l.drop s.1)).2.2 ≠ 0 then (0, (s.1, (Cd.takeU (l.drop s.1)).2.2))
  else if 4611686018427387904 < (Cd.takeU (l.drop s.1)).1 then (0, (s.1, 54)) else ((Cd.takeU (l.drop s.1)).1, (s.1 + (Cd.takeU (l.drop s.1)).2.1, 0))
def rdI (l : Dat) (s : RS) : Int × RS :=
  if s.2 ≠ 0 then (0, s) else if (Cd.takeU (l.drop s.1)).2.2 ≠ 0 then (0, (s.1, (Cd.takeU (l.drop s.1)).2.2))
  else (Cd.unzig (Cd.takeU (l.drop s.1)).1, (s.1 + (Cd.takeU (l.drop s.1)).2.1, 0))
structure Rd {α : Type} (P : Dat → RS → α × RS) (put : α → Dat) (ok : α → Prop) : Prop where
  stuck : ∀ l s, s.2 ≠ 0 → (P l s).2 = s
  le : ∀ l s, s.1 ≤ l.length → (P l s).2.1 ≤ l.length
  sound : ∀ l s, s.1 ≤ l.length → (P l s).2.2 = 0 → s.2 = 0 ∧ l.drop s.1 = put (P l s).1 ++ l.drop (P l s).2.1 ∧ ok (P l s).1
  whole : ∀ l n a x, ok a → l.drop n = put a ++ x → P l (n, 0) = (a, (n + (put a).length, 0))
theorem Rd.well {α : Type} {P : Dat → RS → α × RS} {put : α → Dat} {ok : α → Prop} (h : Rd P put ok) (l : Dat) (s : RS) (hz : (P l s).2.2 = 0) : s.2 = 0 := by
  by_cases h0 : s.2 = 0
  · exact h0
  · rw [h.stuck l s h0] at hz
    exact absurd hz h0
theorem drop_next {l : Dat} {n : Nat} {a x : Dat} (h : l.drop n = a ++ x) : l.drop (n + a.length) = x := by
  rw [← List.drop_drop, h, List.drop_left' rfl]
theorem rdV_rd : Rd rdV Cd.putU (fun a => a ≤ 4611686018427387904) where
  stuck l s h := by simp only [rdV]; rw [if_pos h]
  le l s h := by
    have hk := (Cd.takeU_ok (l.drop s.1)).2.2.1
    rw [List.length_drop] at hk
    simp only [rdV]
    split
    · exact h
    · split
      · exact h
      · split
        · exact h
        · simp only; omega
  sound l s hl h := by
    simp only [rdV] at h ⊢
    split at h
    · rename_i h0; exact absurd h h0
    · rename_i h0
      split at h
      · rename_i h1; exact absurd h h1
      · rename_i h1
        split at h
        · cases h
        · rename_i h2
          rw [if_neg h0, if_neg h1, if_neg h2]
          refine ⟨by simpa using h0, ?_, by simp only; omega⟩
          have hc := Cd.takeU_canon (l := l.drop s.1) (n := (Cd.takeU (l.drop s.1)).1) (k := (Cd.takeU (l.drop s.1)).2.1) (by rw [show (0 : Nat) = (Cd.takeU (l.drop s.1)).2.2 by omega])
          rw [List.drop_drop] at hc
          exact hc
  whole l n a x ha h := by
    simp only [rdV]
    rw [h, Cd.takeU_putU a x (by omega)]
    simp only [ne_eq, not_true_eq_false, if_false]
    rw [if_neg (by omega)]
theorem rdI_rd : Rd rdI putI W64 where
  stuck l s h := by simp only [rdI]; rw [if_pos h]
  le l s h := by
    have hk := (Cd.takeU_ok (l.drop s.1)).2.2.1
    rw [List.length_drop] at hk
    simp only [rdI]
    split
    · exact h
    · split
      · exact h
      · simp only; omega
  sound l s hl h := by
    simp only [rdI] at h ⊢
    split at h
    · rename_i h0; exact absurd h h0
    · rename_i h0
      split at h
      · rename_i h1; exact absurd h h1
      · rename_i h1
        rw [if_neg h0, if_neg h1]
        have ho := (Cd.takeU_ok (l.drop s.1)).1
        have hz : ∀ n : Nat, n < 18446744073709551616 → Cd.zig (Cd.unzig n) = n ∧ W64 (Cd.unzig n) := fun n hn => by
          unfold Cd.zig Cd.unzig W64
          by_cases hd : n % 2 = 1
          · rw [if_pos hd, if_neg (by omega)]
            exact ⟨by omega, by omega, by omega⟩
          · rw [if_neg hd, if_pos (by omega)]
            exact ⟨by omega, by omega, by omega⟩
        obtain ⟨z1, z2⟩ := hz _ ho
        refine ⟨by simpa using h0, ?_, z2⟩
        have hc := Cd.takeU_canon (l := l.drop s.1) (n := (Cd.takeU (l.drop s.1)).1) (k := (Cd.takeU (l.drop s.1)).2.1) (by rw [show (0 : Nat) = (Cd.takeU (l.drop s.1)).2.2 by omega])
        rw [List.drop_drop] at hc
        unfold putI
        simp only
        rw [z1]
        exact hc
  whole l n a x ha h := by
    simp only [rdI]
    unfold putI at h ⊢
    rw [h, Cd.takeU_putU _ x (Cd.zig_lt a ha.1 ha.2), Cd.unzig_zig]
    simp
/-- so many numbers, up to the first that is refused -/
def rdNs (l : Dat) : Nat → List Int → RS → List Int × RS
  | 0, L, s => (L, s)
  | k + 1, L, s => if s.2 ≠ 0 then (L, s) else rdNs l k (L ++ [(rdI l s).1]) (rdI l s).2
theorem rdNs_stuck (l : Dat) (k : Nat) (L : List Int) (s : RS) (h : s.2 ≠ 0) : rdNs l k L s = (L, s) := by
  cases k with
  | zero => rfl
  | succ k => rw [rdNs, if_pos h]
theorem rdNs_le (l : Dat) : ∀ (k : Nat) (L : List Int) (s : RS), s.1 ≤ l.length → (rdNs l k L s).2.1 ≤ l.length
  | 0, L, s, h => h
  | k + 1, L, s, h => by
    rw [rdNs]
    split
    · exact h
    · exact rdNs_le l k _ _ (rdI_rd.le l s h)
theorem rdNs_sound (l : Dat) : ∀ (k : Nat) (L : List Int) (s : RS), s.1 ≤ l.length → (rdNs l k L s).2.2 = 0 →
    s.2 = 0 ∧ ∃ V : List Int, (rdNs l k L s).1 = L ++ V ∧ V.length = k ∧ (∀ v ∈ V, W64 v) ∧ l.drop s.1 = V.flatMap putI ++ l.drop (rdNs l k L s).2.1
  | 0, L, s, hl, h => ⟨h, [], by simp [rdNs], rfl, fun v hv => (by cases hv), by simp [rdNs]⟩
  | k + 1, L, s, hl, h => by
    by_cases h0 : s.2 = 0
    · rw [rdNs, if_neg (by simpa using h0)] at h ⊢
      obtain ⟨hz, V, h1, h2, h3, h4⟩ := rdNs_sound l k _ _ (rdI_rd.le l s hl) h
      obtain ⟨_, s2, s3⟩ := rdI_rd.sound l s hl hz
      refine ⟨h0, (rdI l s).1 :: V, by rw [h1]; simp, by simp [h2], fun v hv => ?_, ?_⟩
      · rcases List.mem_cons.1 hv with rfl | hv
        · exact s3
        · exact h3 v hv
      · rw [s2, h4, List.flatMap_cons, List.append_assoc]
    · rw [rdNs_stuck l _ L s h0] at h
      exact absurd h h0
theorem rdNs_whole (l : Dat) : ∀ (V L : List Int) (n : Nat) (x : Dat), (∀ v ∈ V, W64 v) → l.drop n = V.flatMap putI ++ x → rdNs l V.length L (n, 0) = (L ++ V, (n + (V.flatMap putI).length, 0))
  | [], L, n, x, hV, h => by simp [rdNs]
  | v :: V, L, n, x, hV, h => by
    rw [List.flatMap_cons, List.append_assoc] at h
    have h1 := rdI_rd.whole l n v _ (hV v (by simp)) h
    rw [List.length_cons, rdNs, if_neg (by simp), h1]
    simp only
    rw [rdNs_whole l V _ _ x (fun v hv => hV v (by simp [hv])) (drop_next h)]
    simp [List.append_assoc, Nat.add_assoc]
def mk (i t k : Int) (V : List Int) : Evt := ⟨i, t, k, V.getD 0 0, V.getD 1 0, V.getD 2 0, V.getD 3 0, V.getD 4 0, V.getD 5 0⟩
theorem nums_mk (i t k : Int) (V : List Int) (h : V.length ≤ 6) : (nums (mk i t k V)).take V.length = V := by
  match V, h with
  | [], _ => rfl
  | [a], _ => rfl
  | [a, b], _ => rfl
  | [a, b, c], _ => rfl
  | [a, b, c, d], _ => rfl
  | [a, b, c, d, e], _ => rfl
  | [a, b, c, d, e, f], _ => rfl
  | _ :: _ :: _ :: _ :: _ :: _ :: _ :: _, h => simp at h
theorem mk_nums {x : Evt} (h : validB x = true) : mk x.id x.time x.kind ((nums x).take (many x)) = x := by
  obtain ⟨h0, _, _, _, _, n0, n1, n2, n3, n4, n5⟩ := valid_at h
  have hf := (fields_in x.kind).2
  obtain ⟨m, hm⟩ : ∃ m : Nat, fields x.kind = (m : Int) := ⟨(fields x.kind).toNat, by omega⟩
  have z0 := numB_zero n0
  have z1 := numB_zero n1
  have z2 := numB_zero n2
  have z3 := numB_zero n3
  have z4 := numB_zero n4
  have z5 := numB_zero n5
  have hmm : many x = m := by unfold many; omega
  rw [hm] at z0 z1 z2 z3 z4 z5 hf
  rw [hmm]
  obtain ⟨i, t, k, a, b, c, d, e, f⟩ := x
  simp only at z0 z1 z2 z3 z4 z5
  have hm6 : m ≤ 6 := by omega
  match m, hm6 with
  | 0, _ => simp [mk, nums, z0 (by omega), z1 (by omega), z2 (by omega), z3 (by omega), z4 (by omega), z5 (by omega)]
  | 1, _ => simp [mk, nums, z1 (by omega), z2 (by omega), z3 (by omega), z4 (by omega), z5 (by omega)]
  | 2, _ => simp [mk, nums, z2 (by omega), z3 (by omega), z4 (by omega), z5 (by omega)]
  | 3, _ => simp [mk, nums, z3 (by omega), z4 (by omega), z5 (by omega)]
  | 4, _ => simp [mk, nums, z4 (by omega), z5 (by omega)]
  | 5, _ => simp [mk, nums, z5 (by omega)]
  | 6, _ => simp [mk, nums]
def zero : Evt := ⟨0, 0, 0, 0, 0, 0, 0, 0, 0⟩
def eI (l : Dat) : Nat × RS := rdV l (0, 0)
def eT (l : Dat) : Nat × RS := rdV l (eI l).2
def eK (l : Dat) : Nat × RS := rdV l (eT l).2
def eN (l : Dat) : List Int × RS := rdNs l (fields ((eK l).1 : Int)).toNat [] (eK l).2
def eX (l : Dat) : Evt := mk (eI l).1 (eT l).1 (eK l).1 (eN l).1
/-- P14.3 -/
def dec (l : Dat) : Evt × Nat × Nat :=
  if (eK l).2.2 ≠ 0 then (zero, 0, (eK l).2.2)
  else if fields ((eK l).1 : Int) < 0 then (zero, 0, 54)
  else if (eN l).2.2 ≠ 0 then (zero, 0, (eN l).2.2)
  else if validB (eX l) = true then (eX l, (eN l).2.1, 0) else (zero, 0, 54)
/-- what is read is what was written, and all of it -/
theorem dec_sound {l : Dat} (h : (dec l).2.2 = 0) : validB (dec l).1 = true ∧ EvIn (dec l).1 ∧ (dec l).2.1 ≤ l.length ∧ l = load (dec l).1 ++ l.drop (dec l).2.1 := by
  unfold dec at h ⊢
  split at h
  · rename_i h1; exact absurd h h1
  · rename_i h1
    split at h
    · cases h
    · rename_i h2
      split at h
      · rename_i h3; exact absurd h h3
      · rename_i h3
        split at h
        · rename_i h4
          rw [if_neg h1, if_neg h2, if_neg h3, if_pos h4]
          simp only
          have z3 : (eN l).2.2 = 0 := by omega
          have l1 : (eI l).2.1 ≤ l.length := rdV_rd.le l (0, 0) (Nat.zero_le _)
          have l2 : (eT l).2.1 ≤ l.length := rdV_rd.le l _ l1
          have l3 : (eK l).2.1 ≤ l.length := rdV_rd.le l _ l2
          have l4 : (eN l).2.1 ≤ l.length := rdNs_le l _ _ _ l3
          obtain ⟨k0, V, v1, v2, v3, v4⟩ := rdNs_sound l _ _ _ l3 z3
          obtain ⟨t0, t1, t2⟩ := rdV_rd.sound l (eT l).2 l2 k0
          obtain ⟨i0, i1, i2⟩ := rdV_rd.sound l (eI l).2 l1 t0
          obtain ⟨_, o1, o2⟩ := rdV_rd.sound l (0, 0) (Nat.zero_le _) i0
          change l.drop (eT l).2.1 = Cd.putU (eK l).1 ++ l.drop (eK l).2.1 at t1
          change l.drop (eI l).2.1 = Cd.putU (eT l).1 ++ l.drop (eT l).2.1 at i1
          change l.drop 0 = Cd.putU (eI l).1 ++ l.drop (eI l).2.1 at o1
          change l.drop (eK l).2.1 = V.flatMap putI ++ l.drop (eN l).2.1 at v4
          change (eN l).1 = [] ++ V at v1
          change (eK l).1 ≤ _ at t2
          change (eT l).1 ≤ _ at i2
          change (eI l).1 ≤ _ at o2
          rw [List.nil_append] at v1
          have hf := fields_in ((eK l).1 : Int)
          have hV6 : V.length ≤ 6 := by omega
          have hX : eX l = mk (eI l).1 (eT l).1 (eK l).1 V := by unfold eX; rw [v1]
          have hg : ∀ k, W64 (V.getD k 0) := fun k => by
            by_cases hk : k < V.length
            · rw [List.getD_eq_getElem?_getD, List.getElem?_eq_getElem hk]; exact v3 _ (List.getElem_mem hk)
            · rw [List.getD_eq_getElem?_getD, List.getElem?_eq_none (by omega)]; exact ⟨by show (-9223372036854775808 : Int) ≤ 0; omega, by show (0 : Int) ≤ 9223372036854775807; omega⟩
          refine ⟨h4, by rw [hX]; exact ⟨⟨by show (-9223372036854775808 : Int) ≤ ((eI l).1 : Int); omega, by show ((eI l).1 : Int) ≤ 9223372036854775807; omega⟩, ⟨by show (-9223372036854775808 : Int) ≤ ((eT l).1 : Int); omega, by show ((eT l).1 : Int) ≤ 9223372036854775807; omega⟩, ⟨by show (-9223372036854775808 : Int) ≤ ((eK l).1 : Int); omega, by show ((eK l).1 : Int) ≤ 9223372036854775807; omega⟩, hg 0, hg 1, hg 2, hg 3, hg 4, hg 5⟩, l4, ?_⟩
          have hL : load (eX l) = Cd.putU (eI l).1 ++ Cd.putU (eT l).1 ++ Cd.putU (eK l).1 ++ V.flatMap putI := by
            have hn : many (mk (eI l).1 (eT l).1 (eK l).1 V) = V.length := by rw [v2]; rfl
            rw [hX]
            unfold load
            rw [hn, nums_mk _ _ _ V hV6]
            rfl
          rw [hL]
          have : l = l.drop 0 := rfl
          conv => lhs; rw [this, o1, i1, t1, v4]
          simp only [List.append_assoc]
        · cases h
/-- what was written is read, whatever stands behind it -/
theorem dec_load {x : Evt} (h : validB x = true) (hI : EvIn x) (more : Dat) : dec (load x ++ more) = (x, (load x).length, 0) := by
  obtain ⟨h0, i1, i2, t1, t2, _⟩ := valid_at h
  obtain ⟨k1, k2⟩ := kind_in h0
  have e0 : (load x ++ more).drop 0 = Cd.putU x.id.toNat ++ (Cd.putU x.time.toNat ++ (Cd.putU x.kind.toNat ++ (((nums x).take (many x)).flatMap putI ++ more))) := by
    rw [List.drop_zero]; unfold load putV; simp only [List.append_assoc]
  have r1 := rdV_rd.whole _ 0 x.id.toNat _ (by omega) e0
  have e1 := drop_next e0
  have r2 := rdV_rd.whole _ _ x.time.toNat _ (by omega) e1
  have e2 := drop_next e1
  have r3 := rdV_rd.whole _ _ x.kind.toNat _ (by omega) e2
  have e3 := drop_next e2
  have hn : ((nums x).take (many x)).length = many x := by
    have hf := fields_in x.kind
    rw [List.length_take]
    unfold many nums
    simp only [List.length_cons, List.length_nil]
    omega
  have hw : ∀ v ∈ (nums x).take (many x), W64 v := fun v hv => by
    have := List.mem_of_mem_take hv
    unfold nums at this
    simp only [List.mem_cons, List.not_mem_nil, or_false] at this
    rcases this with rfl | rfl | rfl | rfl | rfl | rfl
    · exact hI.a
    · exact hI.b
    · exact hI.c
    · exact hI.d
    · exact hI.e
    · exact hI.f
  have r4 := rdNs_whole _ ((nums x).take (many x)) [] _ more hw e3
  rw [hn, List.nil_append] at r4
  have q1 := (show eI (load x ++ more) = rdV (load x ++ more) (0, 0) from rfl).trans r1
  have q2 := (show eT (load x ++ more) = rdV (load x ++ more) (0 + (Cd.putU x.id.toNat).length, 0) by unfold eT; rw [q1]).trans r2
  have q3 := (show eK (load x ++ more) = rdV (load x ++ more) (0 + (Cd.putU x.id.toNat).length + (Cd.putU x.time.toNat).length, 0) by unfold eK; rw [q2]).trans r3
  have hkk : ((x.kind.toNat : Nat) : Int) = x.kind := by omega
  have q4 := (show eN (load x ++ more) = rdNs (load x ++ more) (many x) [] (0 + (Cd.putU x.id.toNat).length + (Cd.putU x.time.toNat).length + (Cd.putU x.kind.toNat).length, 0) by unfold eN many; rw [q3]; simp only; rw [hkk]).trans r4
  have q5 : eX (load x ++ more) = x := by
    unfold eX
    rw [q1, q2, q3, q4]
    simp only
    rw [hkk, show ((x.id.toNat : Nat) : Int) = x.id by omega, show ((x.time.toNat : Nat) : Int) = x.time by omega, mk_nums h]
  have hlen : (load x).length = 0 + (Cd.putU x.id.toNat).length + (Cd.putU x.time.toNat).length + (Cd.putU x.kind.toNat).length + (((nums x).take (many x)).flatMap putI).length := by
    unfold load putV
    simp only [List.length_append]
    omega
  unfold dec
  rw [q5, q4, q3]
  simp only
  rw [hkk, if_neg (by simp), if_neg (by omega), if_neg (by simp), if_pos h, hlen]
theorem dec_enc {x : Evt} (h : validB x = true) (hI : EvIn x) : dec (load x) = (x, (load x).length, 0) := by
  have := dec_load h hI []
  rwa [List.append_nil] at this
/-- where an event ends, its bytes end -/
theorem dec_len {l : Dat} (h : (dec l).2.2 = 0) : (dec l).2.1 = (load (dec l).1).length := by
  obtain ⟨h1, h2, h3, h4⟩ := dec_sound h
  have hd := dec_load h1 h2 (l.drop (dec l).2.1)
  rw [← h4] at hd
  rw [hd]
/-- P14.6: no event's bytes are the beginning of another one's -/
theorem dec_cut {x : Evt} (h : validB x = true) (hI : EvIn x) {k : Nat} (hk : k < (load x).length) : (dec ((load x).take k)).2.2 ≠ 0 := fun h0 => by
  obtain ⟨h1, h2, h3, h4⟩ := dec_sound h0
  generalize hy : (dec ((load x).take k)).1 = y at *
  generalize (dec ((load x).take k)).2.1 = n at *
  have e : load x = load y ++ (((load x).take k).drop n ++ (load x).drop k) := by
    conv => lhs; rw [← List.take_append_drop k (load x)]
    conv => lhs; lhs; rw [h4]
    rw [List.append_assoc]
  have d1 := dec_load h1 h2 (((load x).take k).drop n ++ (load x).drop k)
  rw [← e, dec_enc h hI] at d1
  have hxy : x = y := congrArg (·.1) d1
  have hl := congrArg List.length h4
  rw [List.length_append, List.length_take, ← hxy] at hl
  omega
end Ev
end Go.Proofs.Ytojbcdkiilcppaa

/-
  The document's small calls of chapter 14: Fields, Command, Closing, Numbers.
-/
namespace Go.Proofs.Ytojbcdkiilcppaa
open Go.RowKit
set_option linter.unusedSimpArgs false
set_option linter.unusedVariables false
namespace Ev
theorem tab_cell (q : Nat) (hq : q < 32) : ([.int .i64 (-1), .int .i64 6, .int .i64 1, .int .i64 2, .int .i64 1, .int .i64 2, .int .i64 1, .int .i64 1, .int .i64 1, .int .i64 3, .int .i64 2, .int .i64 1, .int .i64 1, .int .i64 2, .int .i64 3, .int .i64 1, .int .i64 1, .int .i64 1, .int .i64 2, .int .i64 3, .int .i64 1, .int .i64 3, .int .i64 3, .int .i64 3, .int .i64 3, .int .i64 1, .int .i64 2, .int .i64 2, .int .i64 3, .int .i64 2, .int .i64 1, .int .i64 0] : List Value)[q]? = some (.int .i64 (tab.getD q (-1))) := by
  show (tab.map (fun x => Value.int .i64 x))[q]? = _
  rw [List.getElem?_map, List.getElem?_eq_getElem (show q < tab.length from hq), List.getD_eq_getElem?_getD, List.getElem?_eq_getElem (show q < tab.length from hq)]
  rfl

set_option maxRecDepth 100000 in
set_option maxHeartbeats 4000000 in
theorem fieldsR_any (k : Int) (w : World) :
    Calls Try.prog 11 #[.int .i64 k] w fun e w' => e = .returned (.int .i64 (fields k)) ∧ Below w.heap.size w w' := by
  have oL := Ob.Obj.new w 3 [.int .i64 (-1), .int .i64 6, .int .i64 1, .int .i64 2, .int .i64 1, .int .i64 2, .int .i64 1, .int .i64 1, .int .i64 1, .int .i64 3, .int .i64 2, .int .i64 1, .int .i64 1, .int .i64 2, .int .i64 3, .int .i64 1, .int .i64 1, .int .i64 1, .int .i64 2, .int .i64 3, .int .i64 1, .int .i64 3, .int .i64 3, .int .i64 3, .int .i64 3, .int .i64 1, .int .i64 2, .int .i64 2, .int .i64 3, .int .i64 2, .int .i64 1, .int .i64 0]
  by_cases hk : 1 ≤ k ∧ k ≤ 31
  · obtain ⟨q, rfl⟩ : ∃ q : Nat, k = (q : Int) := ⟨k.toNat, by omega⟩
    have h1 : ¬ (q : Int) < 1 := by omega
    have h2 : ¬ (q : Int) > 31 := by omega
    have hc := (oL.cell q).trans (tab_cell q (by omega))
    have HF := Lib.hid (show fields (q : Int) = tab.getD q (-1) by unfold fields; rw [if_neg (by omega)]; rfl)
    clear oL
    go_enter Try.func11, Try.ntmps11
    go_wp2_with fail
    all_goals go_ret
    all_goals exact ⟨by rw [HF.out, List.getD_eq_getElem?_getD]; rfl, (Below.refl _ _).alloc (Nat.le_refl _) _⟩
  · have HF := Lib.hid (show fields k = -1 by unfold fields; rw [if_pos (by omega)])
    clear oL
    by_cases h1 : k < 1
    · go_enter Try.func11, Try.ntmps11
      go_wp2_with fail
      all_goals go_ret
      all_goals exact ⟨by rw [HF.out]; rfl, (Below.refl _ _).alloc (Nat.le_refl _) _⟩
    · have h2 : k > 31 := by omega
      go_enter Try.func11, Try.ntmps11
      go_wp2_with fail
      all_goals go_ret
      all_goals exact ⟨by rw [HF.out]; rfl, (Below.refl _ _).alloc (Nat.le_refl _) _⟩

set_option maxRecDepth 100000 in
set_option maxHeartbeats 4000000 in
theorem commandR_any (k : Int) (w : World) :
    Calls Try.prog 13 #[.int .i64 k] w fun e w' => e = .returned (.bool (command k)) ∧ w = w' := by
  go_enter Try.func13, Try.ntmps13
  go_wp2_with fail
  all_goals go_ret
  all_goals refine ⟨congrArg (fun b => Ending.returned (.bool b)) ?_, rfl⟩
  all_goals (unfold command; first | (rw [Bool.eq_iff_iff]; simp; omega) | (simp_all; done) | (simp_all; omega))

set_option maxRecDepth 100000 in
set_option maxHeartbeats 4000000 in
theorem closingR_any (k : Int) (w : World) :
    Calls Try.prog 15 #[.int .i64 k] w fun e w' => e = .returned (.bool (closing k)) ∧ w = w' := by
  go_enter Try.func15, Try.ntmps15
  go_wp2_with fail
  all_goals go_ret
  all_goals refine ⟨congrArg (fun b => Ending.returned (.bool b)) ?_, rfl⟩
  all_goals (unfold closing; first | (rw [Bool.eq_iff_iff]; simp; omega) | (simp_all; done) | (simp_all; omega))

/-- an event as a value -/
def evC (x : Evt) : List Value := [.int .i64 x.id, .int .i64 x.time, .int .i64 x.kind, .int .i64 x.a, .int .i64 x.b, .int .i64 x.c, .int .i64 x.d, .int .i64 x.e, .int .i64 x.f]
def evV (x : Evt) : Value := .agg #[.int .i64 x.id, .int .i64 x.time, .int .i64 x.kind, .int .i64 x.a, .int .i64 x.b, .int .i64 x.c, .int .i64 x.d, .int .i64 x.e, .int .i64 x.f]
def numV (x : Evt) : List Value := [.int .i64 x.a, .int .i64 x.b, .int .i64 x.c, .int .i64 x.d, .int .i64 x.e, .int .i64 x.f]
theorem num_cell {W : World} {b : Nat} {T : TypeId} {x : Evt} (h : Ob.Obj W b T (numV x)) (q : Nat) (hq : q < 6) : W.cell? ⟨b, q, none⟩ = some (.int .i64 ((nums x).getD q 0)) := by
  rw [h.cell q]
  match q, hq with
  | 0, _ => rfl
  | 1, _ => rfl
  | 2, _ => rfl
  | 3, _ => rfl
  | 4, _ => rfl
  | 5, _ => rfl

set_option maxRecDepth 100000 in
set_option maxHeartbeats 4000000 in
theorem numbersR_any (x : Evt) (w : World) :
    Calls Try.prog 32 #[evV x] w fun e w' => ∃ b, e = .returned (.slice (some ⟨b, 0, none⟩) 6 6) ∧ Ob.Obj w' b 2 (numV x) ∧ w.heap.size ≤ b ∧ Below w.heap.size w w' := by
  obtain ⟨i, t, k, a, b, c, d, e, f⟩ := x
  unfold evV numV
  simp only
  have oE := Ob.Obj.new w 26 [.int .i64 i, .int .i64 t, .int .i64 k, .int .i64 a, .int .i64 b, .int .i64 c, .int .i64 d, .int .i64 e, .int .i64 f]
  have oN := Ob.Obj.new (w.alloc (.cells #[.int .i64 i, .int .i64 t, .int .i64 k, .int .i64 a, .int .i64 b, .int .i64 c, .int .i64 d, .int .i64 e, .int .i64 f] 26)) 2 [.int .i64 a, .int .i64 b, .int .i64 c, .int .i64 d, .int .i64 e, .int .i64 f]
  rw [show (w.alloc (.cells #[.int .i64 i, .int .i64 t, .int .i64 k, .int .i64 a, .int .i64 b, .int .i64 c, .int .i64 d, .int .i64 e, .int .i64 f] 26)).heap.size = w.heap.size + 1 by simp] at oN
  have c3 := oE.cell 3
  have c4 := oE.cell 4
  have c5 := oE.cell 5
  have c6 := oE.cell 6
  have c7 := oE.cell 7
  have c8 := oE.cell 8
  simp at c3 c4 c5 c6 c7 c8
  clear oE
  go_enter Try.func32, Try.ntmps32
  go_wp2_with fail
  all_goals go_ret
  all_goals refine ⟨_, rfl, ?_, ?_, ((Below.refl _ _).alloc (Nat.le_refl _) _).alloc (by simp) _⟩
  · exact oN
  · show w.heap.size ≤ w.heap.size + 1
    omega
end Ev
end Go.Proofs.Ytojbcdkiilcppaa

/-
  The program's small calls of chapter 14: within, natural, Fields, Command, Closing, numbers.
-/
namespace Go.Proofs.Ytojbcdkiilcppaa
open Go.RowKit
set_option linter.unusedSimpArgs false
set_option linter.unusedVariables false
namespace Ev

def win (n lo hi : Int) : Bool := decide (lo ≤ n) && decide (n ≤ hi)
theorem nat_in {L : List Int} {q : Nat} (hq : q < L.length) (h : L[q] < 0) : L.all (fun x => decide (0 ≤ x)) = false := by
  cases ha : L.all (fun x => decide (0 ≤ x)) with
  | false => rfl
  | true =>
    have := List.all_eq_true.1 ha L[q] (List.getElem_mem hq)
    simp at this
    omega
theorem nat_all {L : List Int} (h : ∀ q (hq : q < L.length), ¬ L[q] < 0) : L.all (fun x => decide (0 ≤ x)) = true := by
  rw [List.all_eq_true]
  intro x hx
  obtain ⟨q, hq, rfl⟩ := List.getElem_of_mem hx
  have := h q hq
  simp; omega

set_option maxRecDepth 100000 in
set_option maxHeartbeats 4000000 in
theorem within_any (n lo hi : Int) (w : World) :
    Calls Try.prog 29 #[.int .i64 n, .int .i64 lo, .int .i64 hi] w fun e w' => e = .returned (.bool (win n lo hi)) ∧ w = w' := by
  by_cases h1 : lo ≤ n
  · by_cases h2 : n ≤ hi
    · have HR := Lib.hid (show win n lo hi = true by unfold win; simp [h1, h2])
      go_enter Try.func29, Try.ntmps29
      go_wp2_with fail
      go_ret
      exact ⟨by rw [HR.out]; rfl, rfl⟩
    · have HR := Lib.hid (show win n lo hi = false by unfold win; simp; omega)
      have h2b : decide (n ≤ hi) = false := by simpa using h2
      go_enter Try.func29, Try.ntmps29
      go_wp2_with fail
      go_ret
      exact ⟨by rw [HR.out]; rfl, rfl⟩
  · have HR := Lib.hid (show win n lo hi = false by unfold win; simp; omega)
    have h1b : decide (lo ≤ n) = false := by simpa using h1
    go_enter Try.func29, Try.ntmps29
    go_wp2_with fail
    go_ret
    exact ⟨by rw [HR.out]; rfl, rfl⟩

set_option maxRecDepth 100000 in
set_option maxHeartbeats 4000000 in
theorem natural_any (b : Nat) (L : List Int) (n : Nat) (w : World) (hn : n = L.length) (hO : Ob.Obj w b 2 (L.map fun x => .int .i64 x)) (hL : L.length ≤ 100) :
    Calls Try.prog 45 #[.slice (some ⟨b, 0, none⟩) n n] w fun e w' => e = .returned (.bool (L.all fun x => decide (0 ≤ x))) ∧ w = w' := by
  subst hn
  have HC := Lib.hid (fun q (hq : q < L.length) => show w.cell? ⟨b, q, none⟩ = some (.int .i64 L[q]) by rw [hO.cell q]; simp [hq])
  have hbl := hO.lt
  clear hO
  go_enter Try.func45, Try.ntmps45
  go_wp2_with fail
  go_loopw [7] (fun i wr => ∃ q : Nat, q ≤ L.length ∧ i = .int .i64 (q : Int) ∧ Hid (∀ j (hj : j < L.length), j < q → ¬ L[j] < 0) ∧ w = wr) (fun i _ => L.length - (intOf i).toNat)
  case atStart => exact ⟨0, Nat.zero_le _, rfl, (fun j hj h => absurd h (by omega)), rfl⟩
  case round =>
    obtain ⟨q, hq, rfl, hno, rfl⟩ := hrel
    by_cases hlt : q < L.length
    · have c0 := HC.out q hlt
      have hi1 : (0 : Int) ≤ (q : Int) ∧ (q : Int) < (L.length : Int) := by omega
      have HIN := Lib.hid (fun h => nat_in hlt h)
      have HNO := Lib.hid (fun (h : ¬ L[q] < 0) => show ∀ j (hj : j < L.length), j < q + 1 → ¬ L[j] < 0 from fun j hj h2 => if e : j = q then (by subst e; exact h) else hno.out j hj (by omega))
      clear hno HC
      generalize L[q] = x at *
      by_cases hx : x < 0
      · have HI := Lib.hid (HIN.out hx)
        clear HIN HNO
        go_wp2_with fail
        go_ret
        exact ⟨by rw [HI.out]; rfl, rfl⟩
      · have HN2 := Lib.hid (HNO.out hx)
        clear HIN HNO
        go_wp2_with fail
        go_roundw
        case rel => exact ⟨q + 1, by omega, by go_num, HN2, by trivial⟩
        case measure => simp [intOf]; omega
    · obtain rfl : q = L.length := by omega
      have HO := Lib.hid (nat_all (L := L) (fun j hj => hno.out j hj hj))
      clear hno
      go_wp2_with fail
      go_ret
      exact ⟨by rw [HO.out]; rfl, rfl⟩

set_option maxRecDepth 100000 in
set_option maxHeartbeats 16000000 in
theorem fields_any (k : Int) (w : World) :
    Calls Try.prog 10 #[.int .i64 k] w fun e w' => e = .returned (.int .i64 (fields k)) ∧ w = w' := by
  by_cases h : 1 ≤ k ∧ k ≤ 31
  · replace h : k = 1 ∨ k = 2 ∨ k = 3 ∨ k = 4 ∨ k = 5 ∨ k = 6 ∨ k = 7 ∨ k = 8 ∨ k = 9 ∨ k = 10 ∨ k = 11 ∨ k = 12 ∨ k = 13 ∨ k = 14 ∨ k = 15 ∨ k = 16 ∨ k = 17 ∨ k = 18 ∨ k = 19 ∨ k = 20 ∨ k = 21 ∨ k = 22 ∨ k = 23 ∨ k = 24 ∨ k = 25 ∨ k = 26 ∨ k = 27 ∨ k = 28 ∨ k = 29 ∨ k = 30 ∨ k = 31 := by omega
    rcases h with rfl | rfl | rfl | rfl | rfl | rfl | rfl | rfl | rfl | rfl | rfl | rfl | rfl | rfl | rfl | rfl | rfl | rfl | rfl | rfl | rfl | rfl | rfl | rfl | rfl | rfl | rfl | rfl | rfl | rfl | rfl
    all_goals
      go_enter Try.func10, Try.ntmps10
      go_wp2_with fail
      go_ret
      exact ⟨rfl, rfl⟩
  · have HK := Lib.hid (show (Value.int .i64 (fields k)) = .int .i64 (-1) by unfold fields; rw [if_pos (by omega)])
    have q1 : (k == 1) = false := by simp; omega
    have q2 : (k == 2) = false := by simp; omega
    have q3 : (k == 3) = false := by simp; omega
    have q4 : (k == 4) = false := by simp; omega
    have q5 : (k == 5) = false := by simp; omega
    have q6 : (k == 6) = false := by simp; omega
    have q7 : (k == 7) = false := by simp; omega
    have q8 : (k == 8) = false := by simp; omega
    have q9 : (k == 9) = false := by simp; omega
    have q10 : (k == 10) = false := by simp; omega
    have q11 : (k == 11) = false := by simp; omega
    have q12 : (k == 12) = false := by simp; omega
    have q13 : (k == 13) = false := by simp; omega
    have q14 : (k == 14) = false := by simp; omega
    have q15 : (k == 15) = false := by simp; omega
    have q16 : (k == 16) = false := by simp; omega
    have q17 : (k == 17) = false := by simp; omega
    have q18 : (k == 18) = false := by simp; omega
    have q19 : (k == 19) = false := by simp; omega
    have q20 : (k == 20) = false := by simp; omega
    have q21 : (k == 21) = false := by simp; omega
    have q22 : (k == 22) = false := by simp; omega
    have q23 : (k == 23) = false := by simp; omega
    have q24 : (k == 24) = false := by simp; omega
    have q25 : (k == 25) = false := by simp; omega
    have q26 : (k == 26) = false := by simp; omega
    have q27 : (k == 27) = false := by simp; omega
    have q28 : (k == 28) = false := by simp; omega
    have q29 : (k == 29) = false := by simp; omega
    have q30 : (k == 30) = false := by simp; omega
    have q31 : (k == 31) = false := by simp; omega
    clear h
    go_enter Try.func10, Try.ntmps10
    go_wp2_with fail
    go_ret
    exact ⟨by rw [HK.out]; rfl, rfl⟩

set_option maxRecDepth 100000 in
set_option maxHeartbeats 16000000 in
theorem closing_any (k : Int) (w : World) :
    Calls Try.prog 14 #[.int .i64 k] w fun e w' => e = .returned (.bool (closing k)) ∧ w = w' := by
  by_cases h : 1 ≤ k ∧ k ≤ 31
  · replace h : k = 1 ∨ k = 2 ∨ k = 3 ∨ k = 4 ∨ k = 5 ∨ k = 6 ∨ k = 7 ∨ k = 8 ∨ k = 9 ∨ k = 10 ∨ k = 11 ∨ k = 12 ∨ k = 13 ∨ k = 14 ∨ k = 15 ∨ k = 16 ∨ k = 17 ∨ k = 18 ∨ k = 19 ∨ k = 20 ∨ k = 21 ∨ k = 22 ∨ k = 23 ∨ k = 24 ∨ k = 25 ∨ k = 26 ∨ k = 27 ∨ k = 28 ∨ k = 29 ∨ k = 30 ∨ k = 31 := by omega
    rcases h with rfl | rfl | rfl | rfl | rfl | rfl | rfl | rfl | rfl | rfl | rfl | rfl | rfl | rfl | rfl | rfl | rfl | rfl | rfl | rfl | rfl | rfl | rfl | rfl | rfl | rfl | rfl | rfl | rfl | rfl | rfl
    all_goals
      go_enter Try.func14, Try.ntmps14
      go_wp2_with fail
      go_ret
      exact ⟨rfl, rfl⟩
  · have HK := Lib.hid (show Value.bool (closing k) = .bool false by unfold closing; simp; omega)
    have q1 : (k == 1) = false := by simp; omega
    have q2 : (k == 2) = false := by simp; omega
    have q3 : (k == 3) = false := by simp; omega
    have q4 : (k == 4) = false := by simp; omega
    have q5 : (k == 5) = false := by simp; omega
    have q6 : (k == 6) = false := by simp; omega
    have q7 : (k == 7) = false := by simp; omega
    have q8 : (k == 8) = false := by simp; omega
    have q9 : (k == 9) = false := by simp; omega
    have q10 : (k == 10) = false := by simp; omega
    have q11 : (k == 11) = false := by simp; omega
    have q12 : (k == 12) = false := by simp; omega
    have q13 : (k == 13) = false := by simp; omega
    have q14 : (k == 14) = false := by simp; omega
    have q15 : (k == 15) = false := by simp; omega
    have q16 : (k == 16) = false := by simp; omega
    have q17 : (k == 17) = false := by simp; omega
    have q18 : (k == 18) = false := by simp; omega
    have q19 : (k == 19) = false := by simp; omega
    have q20 : (k == 20) = false := by simp; omega
    have q21 : (k == 21) = false := by simp; omega
    have q22 : (k == 22) = false := by simp; omega
    have q23 : (k == 23) = false := by simp; omega
    have q24 : (k == 24) = false := by simp; omega
    have q25 : (k == 25) = false := by simp; omega
    have q26 : (k == 26) = false := by simp; omega
    have q27 : (k == 27) = false := by simp; omega
    have q28 : (k == 28) = false := by simp; omega
    have q29 : (k == 29) = false := by simp; omega
    have q30 : (k == 30) = false := by simp; omega
    have q31 : (k == 31) = false := by simp; omega
    clear h
    go_enter Try.func14, Try.ntmps14
    go_wp2_with fail
    go_ret
    exact ⟨by rw [HK.out]; rfl, rfl⟩

set_option maxRecDepth 100000 in
set_option maxHeartbeats 4000000 in
theorem command_any (k : Int) (w : World) :
    Calls Try.prog 12 #[.int .i64 k] w fun e w' => e = .returned (.bool (command k)) ∧ w = w' := by
  go_enter Try.func12, Try.ntmps12
  go_wp2_with fail
  all_goals go_ret
  all_goals refine ⟨congrArg (fun b => Ending.returned (.bool b)) ?_, rfl⟩
  all_goals (unfold command; first | (rw [Bool.eq_iff_iff]; simp; omega) | (simp_all; done) | (simp_all; omega))

/-- where the numbers of an event lie -/
def ptrC (b : Nat) : List Value := [.pointer (some ⟨b, 3, none⟩), .pointer (some ⟨b, 4, none⟩), .pointer (some ⟨b, 5, none⟩), .pointer (some ⟨b, 6, none⟩), .pointer (some ⟨b, 7, none⟩), .pointer (some ⟨b, 8, none⟩)]

set_option maxRecDepth 100000 in
set_option maxHeartbeats 8000000 in
theorem numbers_any (b : Nat) (w : World) :
    Calls Try.prog 37 #[.pointer (some ⟨b, 0, none⟩)] w fun e w' => e = .returned (.agg (ptrC b).toArray) ∧ Below w.heap.size w w' := by
  have oR := Ob.Obj.new w 66 [.pointer none, .pointer none, .pointer none, .pointer none, .pointer none, .pointer none]
  obtain ⟨wa, hwa⟩ : ∃ wa, w.alloc (.cells #[.pointer none, .pointer none, .pointer none, .pointer none, .pointer none, .pointer none] 66) = wa := ⟨_, rfl⟩
  have hB : Below w.heap.size w wa := by rw [← hwa]; exact (Below.refl _ _).alloc (Nat.le_refl _) _
  rw [show w.alloc (.cells ([.pointer none, .pointer none, .pointer none, .pointer none, .pointer none, .pointer none] : List Value).toArray 66) = wa from hwa] at oR
  have c0 := oR.cell 0
  have c1 := oR.cell 1
  have c2 := oR.cell 2
  have c3 := oR.cell 3
  have c4 := oR.cell 4
  have c5 := oR.cell 5
  have f0 := oR.frozen 0
  have f1 := oR.frozen 1
  have f2 := oR.frozen 2
  have f3 := oR.frozen 3
  have f4 := oR.frozen 4
  have f5 := oR.frozen 5
  have hz := oR.lt
  simp at c0 c1 c2 c3 c4 c5
  clear oR
  go_enter Try.func37, Try.ntmps37
  go_wp2_with fail
  go_big_region
  all_goals (try go_wp2_with fail)
  all_goals refine bodyPost_ret (v := .agg #[.pointer (some ⟨b, 3, none⟩), .pointer (some ⟨b, 4, none⟩), .pointer (some ⟨b, 5, none⟩), .pointer (some ⟨b, 6, none⟩), .pointer (some ⟨b, 7, none⟩), .pointer (some ⟨b, 8, none⟩)]) (by simp [results, Try.results37, go_sem, c0, c1, c2, c3, c4, c5, hz]) rfl ?_
  all_goals exact ⟨rfl, ((((((hB.setCell (p := ⟨w.heap.size, 0, none⟩) (Nat.le_refl _) _).setCell (p := ⟨w.heap.size, 1, none⟩) (Nat.le_refl _) _).setCell (p := ⟨w.heap.size, 2, none⟩) (Nat.le_refl _) _).setCell (p := ⟨w.heap.size, 3, none⟩) (Nat.le_refl _) _).setCell (p := ⟨w.heap.size, 4, none⟩) (Nat.le_refl _) _).setCell (p := ⟨w.heap.size, 5, none⟩) (Nat.le_refl _) _).drew⟩

end Ev
end Go.Proofs.Ytojbcdkiilcppaa

/-
  What the document lets a number of an event be (tapestryref14.span): numbers 0 and 1.
-/
namespace Go.Proofs.Ytojbcdkiilcppaa
open Go.RowKit
set_option linter.unusedSimpArgs false
set_option linter.unusedVariables false
namespace Ev

set_option maxRecDepth 100000 in
set_option maxHeartbeats 16000000 in
theorem spanR_0 (kind : Int) (w : World) (h1 : 1 ≤ kind) (h2 : kind ≤ 31) :
    Calls Try.prog 33 #[.int .i64 kind, .int .i64 0] w fun e w' => e = .returned (.tuple #[.int .i64 (span kind 0).1, .int .i64 (span kind 0).2]) ∧ w = w' := by
  have h : kind = 1 ∨ kind = 2 ∨ kind = 3 ∨ kind = 4 ∨ kind = 5 ∨ kind = 6 ∨ kind = 7 ∨ kind = 8 ∨ kind = 9 ∨ kind = 10 ∨ kind = 11 ∨ kind = 12 ∨ kind = 13 ∨ kind = 14 ∨ kind = 15 ∨ kind = 16 ∨ kind = 17 ∨ kind = 18 ∨ kind = 19 ∨ kind = 20 ∨ kind = 21 ∨ kind = 22 ∨ kind = 23 ∨ kind = 24 ∨ kind = 25 ∨ kind = 26 ∨ kind = 27 ∨ kind = 28 ∨ kind = 29 ∨ kind = 30 ∨ kind = 31 := by omega
  clear h1 h2
  rcases h with rfl | rfl | rfl | rfl | rfl | rfl | rfl | rfl | rfl | rfl | rfl | rfl | rfl | rfl | rfl | rfl | rfl | rfl | rfl | rfl | rfl | rfl | rfl | rfl | rfl | rfl | rfl | rfl | rfl | rfl | rfl
  all_goals
    go_enter Try.func33, Try.ntmps33
    go_wp2_with fail
    go_ret2
    exact ⟨rfl, rfl⟩

set_option maxRecDepth 100000 in
set_option maxHeartbeats 16000000 in
theorem spanR_1 (kind : Int) (w : World) (h1 : 1 ≤ kind) (h2 : kind ≤ 31) :
    Calls Try.prog 33 #[.int .i64 kind, .int .i64 1] w fun e w' => e = .returned (.tuple #[.int .i64 (span kind 1).1, .int .i64 (span kind 1).2]) ∧ w = w' := by
  have h : kind = 1 ∨ kind = 2 ∨ kind = 3 ∨ kind = 4 ∨ kind = 5 ∨ kind = 6 ∨ kind = 7 ∨ kind = 8 ∨ kind = 9 ∨ kind = 10 ∨ kind = 11 ∨ kind = 12 ∨ kind = 13 ∨ kind = 14 ∨ kind = 15 ∨ kind = 16 ∨ kind = 17 ∨ kind = 18 ∨ kind = 19 ∨ kind = 20 ∨ kind = 21 ∨ kind = 22 ∨ kind = 23 ∨ kind = 24 ∨ kind = 25 ∨ kind = 26 ∨ kind = 27 ∨ kind = 28 ∨ kind = 29 ∨ kind = 30 ∨ kind = 31 := by omega
  clear h1 h2
  rcases h with rfl | rfl | rfl | rfl | rfl | rfl | rfl | rfl | rfl | rfl | rfl | rfl | rfl | rfl | rfl | rfl | rfl | rfl | rfl | rfl | rfl | rfl | rfl | rfl | rfl | rfl | rfl | rfl | rfl | rfl | rfl
  all_goals
    go_enter Try.func33, Try.ntmps33
    go_wp2_with fail
    go_ret2
    exact ⟨rfl, rfl⟩
end Ev
end Go.Proofs.Ytojbcdkiilcppaa

/-
  What the document lets a number of an event be (tapestryref14.span): numbers 2 and 3.
-/
namespace Go.Proofs.Ytojbcdkiilcppaa
open Go.RowKit
set_option linter.unusedSimpArgs false
set_option linter.unusedVariables false
namespace Ev

set_option maxRecDepth 100000 in
set_option maxHeartbeats 16000000 in
theorem spanR_2 (kind : Int) (w : World) (h1 : 1 ≤ kind) (h2 : kind ≤ 31) :
    Calls Try.prog 33 #[.int .i64 kind, .int .i64 2] w fun e w' => e = .returned (.tuple #[.int .i64 (span kind 2).1, .int .i64 (span kind 2).2]) ∧ w = w' := by
  have h : kind = 1 ∨ kind = 2 ∨ kind = 3 ∨ kind = 4 ∨ kind = 5 ∨ kind = 6 ∨ kind = 7 ∨ kind = 8 ∨ kind = 9 ∨ kind = 10 ∨ kind = 11 ∨ kind = 12 ∨ kind = 13 ∨ kind = 14 ∨ kind = 15 ∨ kind = 16 ∨ kind = 17 ∨ kind = 18 ∨ kind = 19 ∨ kind = 20 ∨ kind = 21 ∨ kind = 22 ∨ kind = 23 ∨ kind = 24 ∨ kind = 25 ∨ kind = 26 ∨ kind = 27 ∨ kind = 28 ∨ kind = 29 ∨ kind = 30 ∨ kind = 31 := by omega
  clear h1 h2
  rcases h with rfl | rfl | rfl | rfl | rfl | rfl | rfl | rfl | rfl | rfl | rfl | rfl | rfl | rfl | rfl | rfl | rfl | rfl | rfl | rfl | rfl | rfl | rfl | rfl | rfl | rfl | rfl | rfl | rfl | rfl | rfl
  all_goals
    go_enter Try.func33, Try.ntmps33
    go_wp2_with fail
    go_ret2
    exact ⟨rfl, rfl⟩

set_option maxRecDepth 100000 in
set_option maxHeartbeats 16000000 in
theorem spanR_3 (kind : Int) (w : World) (h1 : 1 ≤ kind) (h2 : kind ≤ 31) :
    Calls Try.prog 33 #[.int .i64 kind, .int .i64 3] w fun e w' => e = .returned (.tuple #[.int .i64 (span kind 3).1, .int .i64 (span kind 3).2]) ∧ w = w' := by
  have h : kind = 1 ∨ kind = 2 ∨ kind = 3 ∨ kind = 4 ∨ kind = 5 ∨ kind = 6 ∨ kind = 7 ∨ kind = 8 ∨ kind = 9 ∨ kind = 10 ∨ kind = 11 ∨ kind = 12 ∨ kind = 13 ∨ kind = 14 ∨ kind = 15 ∨ kind = 16 ∨ kind = 17 ∨ kind = 18 ∨ kind = 19 ∨ kind = 20 ∨ kind = 21 ∨ kind = 22 ∨ kind = 23 ∨ kind = 24 ∨ kind = 25 ∨ kind = 26 ∨ kind = 27 ∨ kind = 28 ∨ kind = 29 ∨ kind = 30 ∨ kind = 31 := by omega
  clear h1 h2
  rcases h with rfl | rfl | rfl | rfl | rfl | rfl | rfl | rfl | rfl | rfl | rfl | rfl | rfl | rfl | rfl | rfl | rfl | rfl | rfl | rfl | rfl | rfl | rfl | rfl | rfl | rfl | rfl | rfl | rfl | rfl | rfl
  all_goals
    go_enter Try.func33, Try.ntmps33
    go_wp2_with fail
    go_ret2
    exact ⟨rfl, rfl⟩
end Ev
end Go.Proofs.Ytojbcdkiilcppaa

/-
  What the document lets a number of an event be (tapestryref14.span): numbers 4 and 5.
-/
namespace Go.Proofs.Ytojbcdkiilcppaa
open Go.RowKit
set_option linter.unusedSimpArgs false
set_option linter.unusedVariables false
namespace Ev

set_option maxRecDepth 100000 in
set_option maxHeartbeats 16000000 in
theorem spanR_4 (kind : Int) (w : World) (h1 : 1 ≤ kind) (h2 : kind ≤ 31) :
    Calls Try.prog 33 #[.int .i64 kind, .int .i64 4] w fun e w' => e = .returned (.tuple #[.int .i64 (span kind 4).1, .int .i64 (span kind 4).2]) ∧ w = w' := by
  have h : kind = 1 ∨ kind = 2 ∨ kind = 3 ∨ kind = 4 ∨ kind = 5 ∨ kind = 6 ∨ kind = 7 ∨ kind = 8 ∨ kind = 9 ∨ kind = 10 ∨ kind = 11 ∨ kind = 12 ∨ kind = 13 ∨ kind = 14 ∨ kind = 15 ∨ kind = 16 ∨ kind = 17 ∨ kind = 18 ∨ kind = 19 ∨ kind = 20 ∨ kind = 21 ∨ kind = 22 ∨ kind = 23 ∨ kind = 24 ∨ kind = 25 ∨ kind = 26 ∨ kind = 27 ∨ kind = 28 ∨ kind = 29 ∨ kind = 30 ∨ kind = 31 := by omega
  clear h1 h2
  rcases h with rfl | rfl | rfl | rfl | rfl | rfl | rfl | rfl | rfl | rfl | rfl | rfl | rfl | rfl | rfl | rfl | rfl | rfl | rfl | rfl | rfl | rfl | rfl | rfl | rfl | rfl | rfl | rfl | rfl | rfl | rfl
  all_goals
    go_enter Try.func33, Try.ntmps33
    go_wp2_with fail
    go_ret2
    exact ⟨rfl, rfl⟩

set_option maxRecDepth 100000 in
set_option maxHeartbeats 16000000 in
theorem spanR_5 (kind : Int) (w : World) (h1 : 1 ≤ kind) (h2 : kind ≤ 31) :
    Calls Try.prog 33 #[.int .i64 kind, .int .i64 5] w fun e w' => e = .returned (.tuple #[.int .i64 (span kind 5).1, .int .i64 (span kind 5).2]) ∧ w = w' := by
  have h : kind = 1 ∨ kind = 2 ∨ kind = 3 ∨ kind = 4 ∨ kind = 5 ∨ kind = 6 ∨ kind = 7 ∨ kind = 8 ∨ kind = 9 ∨ kind = 10 ∨ kind = 11 ∨ kind = 12 ∨ kind = 13 ∨ kind = 14 ∨ kind = 15 ∨ kind = 16 ∨ kind = 17 ∨ kind = 18 ∨ kind = 19 ∨ kind = 20 ∨ kind = 21 ∨ kind = 22 ∨ kind = 23 ∨ kind = 24 ∨ kind = 25 ∨ kind = 26 ∨ kind = 27 ∨ kind = 28 ∨ kind = 29 ∨ kind = 30 ∨ kind = 31 := by omega
  clear h1 h2
  rcases h with rfl | rfl | rfl | rfl | rfl | rfl | rfl | rfl | rfl | rfl | rfl | rfl | rfl | rfl | rfl | rfl | rfl | rfl | rfl | rfl | rfl | rfl | rfl | rfl | rfl | rfl | rfl | rfl | rfl | rfl | rfl
  all_goals
    go_enter Try.func33, Try.ntmps33
    go_wp2_with fail
    go_ret2
    exact ⟨rfl, rfl⟩
end Ev
end Go.Proofs.Ytojbcdkiilcppaa

/-
  What the document lets a number of an event be (tapestryref14.span).
-/
namespace Go.Proofs.Ytojbcdkiilcppaa
open Go.RowKit
set_option linter.unusedSimpArgs false
set_option linter.unusedVariables false
namespace Ev

theorem spanR_any (kind : Int) (k : Nat) (w : World) (h1 : 1 ≤ kind) (h2 : kind ≤ 31) (hk : k < 6) :
    Calls Try.prog 33 #[.int .i64 kind, .int .i64 (k : Int)] w fun e w' => e = .returned (.tuple #[.int .i64 (span kind k).1, .int .i64 (span kind k).2]) ∧ w = w' := by
  have h : k = 0 ∨ k = 1 ∨ k = 2 ∨ k = 3 ∨ k = 4 ∨ k = 5 := by omega
  rcases h with rfl | rfl | rfl | rfl | rfl | rfl
  · exact spanR_0 kind w h1 h2
  · exact spanR_1 kind w h1 h2
  · exact spanR_2 kind w h1 h2
  · exact spanR_3 kind w h1 h2
  · exact spanR_4 kind w h1 h2
  · exact spanR_5 kind w h1 h2
end Ev
end Go.Proofs.Ytojbcdkiilcppaa

/-
  The document's answer of P14.2 (tapestryref14.Valid).
-/
namespace Go.Proofs.Ytojbcdkiilcppaa
open Go.RowKit
set_option linter.unusedSimpArgs false
set_option linter.unusedVariables false
namespace Ev
theorem valid_mk {x : Evt} (h0 : 0 ≤ fields x.kind) (h1 : 1 ≤ x.id) (h2 : x.id ≤ 256) (h3 : 0 ≤ x.time) (h4 : x.time ≤ 1099511627776) (h : ∀ j, j < 6 → numB x.kind j ((nums x).getD j 0) = true) : validB x = true := by
  have n0 : numB x.kind 0 x.a = true := h 0 (by decide)
  have n1 : numB x.kind 1 x.b = true := h 1 (by decide)
  have n2 : numB x.kind 2 x.c = true := h 2 (by decide)
  have n3 : numB x.kind 3 x.d = true := h 3 (by decide)
  have n4 : numB x.kind 4 x.e = true := h 4 (by decide)
  have n5 : numB x.kind 5 x.f = true := h 5 (by decide)
  unfold validB
  rw [n0, n1, n2, n3, n4, n5]
  simp [h0, h1, h2, h3, h4]
theorem valid_num {x : Evt} {j : Nat} (hj : j < 6) (h : numB x.kind j ((nums x).getD j 0) = false) : validB x = false := by
  cases hv : validB x with
  | false => rfl
  | true =>
    obtain ⟨_, _, _, _, _, n0, n1, n2, n3, n4, n5⟩ := valid_at hv
    match j, hj with
    | 0, _ => exact absurd (n0.symm.trans h) (by decide)
    | 1, _ => exact absurd (n1.symm.trans h) (by decide)
    | 2, _ => exact absurd (n2.symm.trans h) (by decide)
    | 3, _ => exact absurd (n3.symm.trans h) (by decide)
    | 4, _ => exact absurd (n4.symm.trans h) (by decide)
    | 5, _ => exact absurd (n5.symm.trans h) (by decide)
theorem valid_head {x : Evt} (h : fields x.kind < 0 ∨ x.id < 1 ∨ 256 < x.id ∨ x.time < 0 ∨ 1099511627776 < x.time) : validB x = false := by
  cases hv : validB x with
  | false => rfl
  | true =>
    obtain ⟨h0, h1, h2, h3, h4, _⟩ := valid_at hv
    omega
theorem numB_out {kind : Int} {q : Nat} {v n : Int} (hn : fields kind = n) (hq : (q : Int) ≥ n) : numB kind q v = decide (v = 0) := by
  unfold numB; rw [if_neg (by omega)]
theorem numB_in {kind : Int} {q : Nat} {v n : Int} (hn : fields kind = n) (hq : (q : Int) < n) : numB kind q v = (decide ((span kind q).1 ≤ v) && decide (v ≤ (span kind q).2)) := by
  unfold numB; rw [if_pos (by omega)]

set_option maxRecDepth 100000 in
set_option maxHeartbeats 8000000 in
theorem validR_any (x : Evt) (w : World) :
    Calls Try.prog 17 #[evV x] w fun e w' => e = .returned (.bool (validB x)) ∧ Below w.heap.size w w' := by
  have HF := Lib.hid (fun W => fieldsR_any x.kind W)
  have HN := Lib.hid (fun W => numbersR_any x W)
  have HS := Lib.hid (fun (h : 0 ≤ fields x.kind) (q : Nat) (hq : q < 6) W => spanR_any x.kind q W (kind_in h).1 (kind_in h).2 hq)
  have HVM := Lib.hid (valid_mk (x := x))
  have HVN := Lib.hid (fun j => valid_num (x := x) (j := j))
  have HVH := Lib.hid (valid_head (x := x))
  have HNC := Lib.hid (fun W b (h : Ob.Obj W b 2 (numV x)) q hq => num_cell h q hq)
  have HNO := Lib.hid (fun (q : Nat) (v : Int) => numB_out (kind := x.kind) (q := q) (v := v) rfl)
  have HNI := Lib.hid (fun (q : Nat) (v : Int) => numB_in (kind := x.kind) (q := q) (v := v) rfl)
  generalize hNB : (fun j => numB x.kind j) = NB at *
  have hNB2 : ∀ j v, numB x.kind j v = NB j v := fun j v => by rw [← hNB]
  simp only [hNB2] at HVM HVN HNO HNI
  clear hNB hNB2
  generalize hNU : (fun j => (nums x).getD j 0) = NU at *
  have hNU2 : ∀ j, (nums x).getD j 0 = NU j := fun j => by rw [← hNU]
  simp only [hNU2] at HVM HVN HNC
  clear hNU hNU2
  generalize validB x = vb at *
  obtain ⟨i, t, k, a, b, c, d, e, f⟩ := x
  unfold evV at *
  simp only at *
  generalize hn : fields k = n at *
  clear hn
  have oE := Ob.Obj.new w 26 [.int .i64 i, .int .i64 t, .int .i64 k, .int .i64 a, .int .i64 b, .int .i64 c, .int .i64 d, .int .i64 e, .int .i64 f]
  have hA : Below w.heap.size w (w.alloc (.cells #[.int .i64 i, .int .i64 t, .int .i64 k, .int .i64 a, .int .i64 b, .int .i64 c, .int .i64 d, .int .i64 e, .int .i64 f] 26)) := (Below.refl _ _).alloc (Nat.le_refl _) _
  by_cases hh : n < 0 ∨ i < 1 ∨ 256 < i ∨ t < 0 ∨ 1099511627776 < t
  · obtain rfl := HVH.out hh
    have c2 := oE.cell 2
    simp at c2
    have hd : (n < 0) ∨ (¬ n < 0 ∧ i < 1) ∨ (¬ n < 0 ∧ ¬ i < 1 ∧ i > 256) ∨ (¬ n < 0 ∧ ¬ i < 1 ∧ ¬ i > 256 ∧ t < 0) ∨ (¬ n < 0 ∧ ¬ i < 1 ∧ ¬ i > 256 ∧ ¬ t < 0 ∧ t > 1099511627776) := by omega
    clear hh HVM HVN HVH HNC HNO HNI HS HN
    rcases hd with h1 | ⟨h1, h2⟩ | ⟨h1, h2, h3⟩ | ⟨h1, h2, h3, h4⟩ | ⟨h1, h2, h3, h4, h5⟩
    all_goals
      go_enter Try.func17, Try.ntmps17
      go_wp2_with (go_at_call 11; (with_reducible refine (HF.out _).mono ?_); rintro e w2 ⟨rfl, hb2⟩; have oE2 := oE.below hb2; have d0 := oE2.cell 0; have d1 := oE2.cell 1; simp at d0 d1)
      go_ret
      exact ⟨rfl, hA.trans (hb2.mono hA.size)⟩
  · have h1 : ¬ n < 0 := by omega
    have h2 : ¬ i < 1 := by omega
    have h3 : ¬ i > 256 := by omega
    have h4 : ¬ t < 0 := by omega
    have h5 : ¬ t > 1099511627776 := by omega
    have c2 := oE.cell 2
    simp at c2
    have HS2 := Lib.hid (HS.out (by omega))
    have HVM2 := Lib.hid (HVM.out (by omega) (by omega) (by omega) (by omega) (by omega))
    clear hh HVM HVH HS
    go_enter Try.func17, Try.ntmps17
    go_wp2_with (first
      | (go_at_call 11; (with_reducible refine (HF.out _).mono ?_); rintro e w2 ⟨rfl, hb2⟩; have hB2 := hA.trans (hb2.mono hA.size); have oE2 := oE.below hb2; have d0 := oE2.cell 0; have d1 := oE2.cell 1; have d2 := oE2.cell 2; have d3 := oE2.cell 3; have d4 := oE2.cell 4; have d5 := oE2.cell 5; have d6 := oE2.cell 6; have d7 := oE2.cell 7; have d8 := oE2.cell 8; simp at d0 d1 d2 d3 d4 d5 d6 d7 d8)
      | (go_at_call 32; (with_reducible refine (HN.out _).mono ?_); rintro e w3 ⟨g, rfl, oN, hg, hb3⟩; have hB3 := Lib.hid (hB2.trans (hb3.mono hB2.size)); have oE3 := oE2.below hb3))
    clear d0 d1 d2 d3 d4 d5 d6 d7 d8 hg hb2 hb3 hB2 oE2 c2 oE hA
    go_loopw [5] (fun s wr => ∃ q : Nat, q ≤ 6 ∧ s = .int .i64 (q : Int) ∧ Below w.heap.size w wr ∧ Ob.Obj wr w.heap.size 26 [.int .i64 i, .int .i64 t, .int .i64 k, .int .i64 a, .int .i64 b, .int .i64 c, .int .i64 d, .int .i64 e, .int .i64 f] ∧ Ob.Obj wr g 2 (numV ⟨i, t, k, a, b, c, d, e, f⟩) ∧ Hid (∀ j, j < q → NB j (NU j) = true)) (fun s _ => 6 - (intOf s).toNat)
    case atStart => exact ⟨0, Nat.zero_le _, rfl, hB3.out, oE3, oN, fun j hj => absurd hj (by omega)⟩
    case round =>
      clear hB3 oE3 oN
      obtain ⟨q, hq, rfl, hB, oE, oN, hall⟩ := hrel
      obtain ⟨wo, rfl⟩ : ∃ wo : World, wo = wr := ⟨_, rfl⟩
      have p2 := oE.cell 2
      simp at p2
      by_cases hlt : q < 6
      · have hi1 : (0 : Int) ≤ (q : Int) ∧ (q : Int) < 6 := by omega
        have e0 := HNC.out _ _ oN q hlt
        have hgl := oN.lt
        have HQ := Lib.hid (fun W => HS2.out q hlt W)
        have HO := Lib.hid (HNO.out q (NU q))
        have HI := Lib.hid (HNI.out q (NU q))
        have HX := Lib.hid (HVN.out q hlt)
        have HAL := Lib.hid (fun (h : NB q (NU q) = true) j (hj : j < q + 1) => show NB j (NU j) = true from if hjq : j = q then (by rw [hjq]; exact h) else hall.out j (by omega))
        clear hall HNC HNO HNI HVN HVM2
        generalize span k q = lh at *
        generalize NU q = v at *
        generalize NB q v = nb at *
        obtain ⟨lo, hi⟩ := lh
        simp only at HQ HI
        by_cases hqn : (q : Int) ≥ n
        · have hqn2 : ¬ (q : Int) < n := by omega
          have hO := HO.out hqn
          by_cases hv : v = 0
          · subst hv
            have HAL2 := Lib.hid (HAL.out (by rw [hO]; rfl))
            clear hO
            go_wp2_with (go_at_call 33; (with_reducible refine (HQ.out _).mono ?_); rintro e w6 ⟨rfl, rfl⟩)
            go_roundw
            case rel => exact ⟨q + 1, by omega, by go_num, hB, oE, oN, HAL2.out⟩
            case measure => simp [intOf]; omega
          · have hvb : (v != 0) = true := by simpa using hv
            obtain rfl := HX.out (by rw [hO]; simpa using hv)
            clear hO hv
            go_wp2_with (go_at_call 33; (with_reducible refine (HQ.out _).mono ?_); rintro e w6 ⟨rfl, rfl⟩)
            go_ret
            exact ⟨rfl, hB⟩
        · have hqn2 : (q : Int) < n := by omega
          have hI := HI.out hqn2
          by_cases hlo : v < lo
          · obtain rfl := HX.out (by rw [hI]; simp; omega)
            clear hI
            go_wp2_with (go_at_call 33; (with_reducible refine (HQ.out _).mono ?_); rintro e w6 ⟨rfl, rfl⟩)
            go_ret
            exact ⟨rfl, hB⟩
          · by_cases hhi : v > hi
            · obtain rfl := HX.out (by rw [hI]; simp; omega)
              clear hI
              go_wp2_with (go_at_call 33; (with_reducible refine (HQ.out _).mono ?_); rintro e w6 ⟨rfl, rfl⟩)
              go_ret
              exact ⟨rfl, hB⟩
            · have HAL2 := Lib.hid (HAL.out (by rw [hI]; simp; omega))
              clear hI
              go_wp2_with (go_at_call 33; (with_reducible refine (HQ.out _).mono ?_); rintro e w6 ⟨rfl, rfl⟩)
              go_roundw
              case rel => exact ⟨q + 1, by omega, by go_num, hB, oE, oN, HAL2.out⟩
              case measure => simp [intOf]; omega
      · obtain rfl : q = 6 := by omega
        obtain rfl := HVM2.out hall.out
        go_wp2_with fail
        go_ret
        exact ⟨rfl, hB⟩
end Ev
end Go.Proofs.Ytojbcdkiilcppaa

/-
  The program's restIsZero, wordsMayBe, numbersMayBe, Valid (P14.2).
-/
namespace Go.Proofs.Ytojbcdkiilcppaa
open Go.RowKit
set_option linter.unusedSimpArgs false
set_option linter.unusedVariables false
namespace Ev

def restB (x : Evt) : Bool := ((nums x).drop (many x)).all fun v => decide (v = 0)
def wordsB (k b c : Int) : Bool :=
  if k = 9 then win b 0 7 else if k = 14 then win c 0 1 else if k = 26 then decide (1 ≤ b) else if k = 28 then win c 0 4
  else if k = 24 then win b 1 4 && decide (1 ≤ c) else if k = 22 ∨ k = 23 then decide (1 ≤ c) else true
def nmbB (x : Evt) : Bool :=
  if x.kind = 11 ∨ x.kind = 15 ∨ x.kind = 16 ∨ x.kind = 17 ∨ x.kind = 30 ∨ x.kind = 31 then true
  else if x.kind = 3 then win x.a 0 7 else if x.kind = 10 then win x.a 0 3 else if x.kind = 18 then decide (1 ≤ x.b)
  else if x.kind = 1 then ([x.c, x.d, x.e, x.f].all fun v => decide (0 ≤ v)) && win x.a 0 7 else if x.kind = 5 then win x.a 0 7
  else if x.kind = 19 ∨ x.kind = 21 then win x.a 0 7 && [x.c].all fun v => decide (0 ≤ v) else if x.kind = 4 ∨ x.kind = 20 then [x.a].all fun v => decide (0 ≤ v)
  else decide (1 ≤ x.a) && wordsB x.kind x.b x.c
theorem fields_which {k : Int} (h : 0 ≤ fields k) : fields k = 0 ∨ fields k = 1 ∨ fields k = 2 ∨ fields k = 3 ∨ fields k = 6 := by
  obtain ⟨h1, h2⟩ := kind_in h
  obtain ⟨q, rfl⟩ : ∃ q : Nat, k = (q : Int) := ⟨k.toNat, by omega⟩
  have : ∀ q : Nat, q < 32 → 1 ≤ q → (tab.getD q (-1) = 0 ∨ tab.getD q (-1) = 1 ∨ tab.getD q (-1) = 2 ∨ tab.getD q (-1) = 3 ∨ tab.getD q (-1) = 6) := by decide
  unfold fields
  rw [if_neg (by omega)]
  exact this q (by omega) (by omega)
set_option maxHeartbeats 4000000 in
theorem valid_parts {x : Evt} (hI : EvIn x) (h : 0 ≤ fields x.kind) : validB x = (win x.id 1 256 && win x.time 0 1099511627776 && restB x && nmbB x) := by
  obtain ⟨h1, h2⟩ := kind_in h
  obtain ⟨i, t, k, a, b, c, d, e, f⟩ := x
  obtain ⟨⟨_, _⟩, ⟨_, _⟩, _, ⟨_, _⟩, ⟨_, _⟩, ⟨_, _⟩, ⟨_, _⟩, ⟨_, _⟩, ⟨_, _⟩⟩ := hI
  simp only at *
  have hk : k = 1 ∨ k = 2 ∨ k = 3 ∨ k = 4 ∨ k = 5 ∨ k = 6 ∨ k = 7 ∨ k = 8 ∨ k = 9 ∨ k = 10 ∨ k = 11 ∨ k = 12 ∨ k = 13 ∨ k = 14 ∨ k = 15 ∨ k = 16 ∨ k = 17 ∨ k = 18 ∨ k = 19 ∨ k = 20 ∨ k = 21 ∨ k = 22 ∨ k = 23 ∨ k = 24 ∨ k = 25 ∨ k = 26 ∨ k = 27 ∨ k = 28 ∨ k = 29 ∨ k = 30 ∨ k = 31 := by omega
  clear h h1 h2
  rcases hk with rfl | rfl | rfl | rfl | rfl | rfl | rfl | rfl | rfl | rfl | rfl | rfl | rfl | rfl | rfl | rfl | rfl | rfl | rfl | rfl | rfl | rfl | rfl | rfl | rfl | rfl | rfl | rfl | rfl | rfl | rfl
  all_goals
    rw [Bool.eq_iff_iff]
    simp [validB, numB, span, fields, tab, restB, nums, many, nmbB, wordsB, win]
    try omega
theorem valid_none {x : Evt} (h : fields x.kind < 0) : validB x = false := valid_head (.inl h)

set_option maxRecDepth 100000 in
set_option maxHeartbeats 4000000 in
theorem rest_0 (x : Evt) (hn : fields x.kind = 0) (w : World) :
    Calls Try.prog 30 #[evV x] w fun e w' => e = .returned (.bool (restB x)) ∧ Below w.heap.size w w' := by
  have HF := Lib.hid (fun W => fields_any x.kind W)
  rw [hn] at HF
  have hR : restB x = ((nums x).drop 0).all fun v => decide (v = 0) := by unfold restB many; rw [hn]; rfl
  have HNF := Lib.hid (fun (q : Nat) (hq : q < 6) (h : (nums x).getD q 0 ≠ 0) => show restB x = false from by
    rw [hR]
    cases ha : ((nums x).drop 0).all fun v => decide (v = 0) with
    | false => rfl
    | true =>
      have hl : q < ((nums x).drop 0).length := by simp [nums]; omega
      have := List.all_eq_true.1 ha _ (List.getElem_mem hl)
      simp only [List.getElem_drop, decide_eq_true_eq] at this
      rw [List.getD_eq_getElem?_getD, List.getElem?_eq_getElem (show q < (nums x).length by simp [nums]; omega)] at h
      exact absurd (by simpa using this) h)
  have HNT := Lib.hid (fun (h : ∀ q, q < 6 → (nums x).getD q 0 = 0) => show restB x = true from by
    rw [hR, List.all_eq_true]
    intro v hv
    obtain ⟨q, hq, rfl⟩ := List.getElem_of_mem hv
    have hq2 : q < 6 := by first | (simp [nums] at hq; done) | (simp [nums] at hq; omega)
    have := h q hq2
    rw [List.getD_eq_getElem?_getD, List.getElem?_eq_getElem (show q < (nums x).length by simp [nums]; omega)] at this
    simp only [List.getElem_drop, decide_eq_true_eq]
    simpa using this)
  have HC := Lib.hid (fun (W : World) (g : Nat) (h : Ob.Obj W g 26 (evC x)) (q : Nat) (hq : q < 6) => show W.cell? ⟨g, 3 + q, none⟩ = some (.int .i64 ((nums x).getD q 0)) from by
    rw [h.cell (3 + q)]
    match q, hq with
    | 0, _ => rfl
    | 1, _ => rfl
    | 2, _ => rfl
    | 3, _ => rfl
    | 4, _ => rfl
    | 5, _ => rfl
    | j + 6, h2 => exact absurd h2 (by omega))
  have HP := Lib.hid (fun (W : World) (g b : Nat) (h : Ob.Obj W g 66 (ptrC b)) (q : Nat) (hq : q < 6) => show W.cell? ⟨g, q, none⟩ = some (.pointer (some ⟨b, 3 + q, none⟩)) from by
    rw [h.cell q]
    match q, hq with
    | 0, _ => rfl
    | 1, _ => rfl
    | 2, _ => rfl
    | 3, _ => rfl
    | 4, _ => rfl
    | 5, _ => rfl
    | j + 6, h2 => exact absurd h2 (by omega))
  generalize restB x = rb at *
  generalize hNU : (fun j => (nums x).getD j 0) = NU at *
  have hNU2 : ∀ j, (nums x).getD j 0 = NU j := fun j => by rw [← hNU]
  simp only [hNU2] at HNF HNT HC
  clear hNU hNU2 hR hn
  obtain ⟨i, t, k, a, b, c, d, e, f⟩ := x
  unfold evV
  simp only at *
  have oE := Ob.Obj.new w 26 [.int .i64 i, .int .i64 t, .int .i64 k, .int .i64 a, .int .i64 b, .int .i64 c, .int .i64 d, .int .i64 e, .int .i64 f]
  have hA : Below w.heap.size w (w.alloc (.cells #[.int .i64 i, .int .i64 t, .int .i64 k, .int .i64 a, .int .i64 b, .int .i64 c, .int .i64 d, .int .i64 e, .int .i64 f] 26)) := (Below.refl _ _).alloc (Nat.le_refl _) _
  have HN := Lib.hid (fun W => numbers_any w.heap.size W)
  unfold ptrC at HN
  go_enter Try.func30, Try.ntmps30
  go_wp2_with (first
    | (go_at_call 37; (with_reducible refine (HN.out _).mono ?_); rintro e w1 ⟨rfl, hb1⟩; have hB1 := hA.trans (hb1.mono hA.size); have oE1 := oE.below hb1; have oP1 := Ob.Obj.new w1 66 (ptrC w.heap.size); have hB2 := hB1.alloc hB1.size (.cells (ptrC w.heap.size).toArray 66); have oE2 := oE1.alloc (.cells (ptrC w.heap.size).toArray 66); have c2 := oE2.cell 2; simp [ptrC] at c2; have hz2 := oP1.lt)
    | (go_at_call 10; (with_reducible refine (HF.out _).mono ?_); rintro e w3 ⟨rfl, rfl⟩))
  have HB2 := Lib.hid hB2
  have OE2 := Lib.hid oE2
  have OP2 := Lib.hid oP1
  have he2 := oE2.lt
  unfold ptrC at HB2 OE2 OP2 hz2 he2
  clear hB2 oE2 oP1 hB1 oE1 oE hA hb1 c2 HN HF
  go_loopw [12] (fun s wr => ∃ q : Nat, q ≤ 6 ∧ s = .int .i64 (q : Int) ∧ Hid (∀ j, j < q → NU j = 0) ∧ Below w.heap.size w wr ∧ Ob.Obj wr w.heap.size 26 (evC ⟨i, t, k, a, b, c, d, e, f⟩) ∧ Ob.Obj wr w1.heap.size 66 (ptrC w.heap.size)) (fun s _ => 6 - (intOf s).toNat)
  case atStart => exact ⟨0, Nat.zero_le _, rfl, (fun j hj => absurd hj (by omega)), HB2.out, OE2.out, OP2.out⟩
  case round =>
    clear HB2 OE2 OP2 hz2 he2
    obtain ⟨q, hq, rfl, hall, hB, oE, oP⟩ := hrel
    obtain ⟨wo, rfl⟩ : ∃ wo : World, wo = wr := ⟨_, rfl⟩
    have he2 := oE.lt
    have hz2 := oP.lt
    by_cases hlt : q < 6
    · have hi1 : (0 : Int) ≤ (q : Int) ∧ (q : Int) < 6 := by omega
      have e0 := HP.out _ _ _ oP q hlt
      have e1 := HC.out _ _ oE q hlt
      have HX := Lib.hid (HNF.out q hlt)
      have HAL := Lib.hid (fun (h : NU q = 0) j (hj : j < q + 1) => show NU j = 0 from if hjq : j = q then (by rw [hjq]; exact h) else hall.out j (by omega))
      clear hall HC HP HNF HNT
      generalize NU q = v at *
      by_cases hv : v = 0
      · subst hv
        have HAL2 := Lib.hid (HAL.out rfl)
        clear HAL HX
        go_wp2_with fail
        go_roundw
        case rel => exact ⟨q + 1, by omega, by go_num, HAL2, hB, oE, oP⟩
        case measure => simp [intOf]; omega
      · have hvb : (v != 0) = true := by simpa using hv
        obtain rfl := HX.out hv
        clear HAL hv
        go_wp2_with fail
        go_ret
        exact ⟨rfl, hB⟩
    · obtain rfl : q = 6 := by omega
      obtain rfl := HNT.out hall.out
      go_wp2_with fail
      go_ret
      exact ⟨rfl, hB⟩

set_option maxRecDepth 100000 in
set_option maxHeartbeats 4000000 in
theorem rest_1 (x : Evt) (hn : fields x.kind = 1) (w : World) :
    Calls Try.prog 30 #[evV x] w fun e w' => e = .returned (.bool (restB x)) ∧ Below w.heap.size w w' := by
  have HF := Lib.hid (fun W => fields_any x.kind W)
  rw [hn] at HF
  have hR : restB x = ((nums x).drop 1).all fun v => decide (v = 0) := by unfold restB many; rw [hn]; rfl
  have HNF := Lib.hid (fun (q : Nat) (hq : q < 5) (h : (nums x).getD (1 + q) 0 ≠ 0) => show restB x = false from by
    rw [hR]
    cases ha : ((nums x).drop 1).all fun v => decide (v = 0) with
    | false => rfl
    | true =>
      have hl : q < ((nums x).drop 1).length := by simp [nums]; omega
      have := List.all_eq_true.1 ha _ (List.getElem_mem hl)
      simp only [List.getElem_drop, decide_eq_true_eq] at this
      rw [List.getD_eq_getElem?_getD, List.getElem?_eq_getElem (show 1 + q < (nums x).length by simp [nums]; omega)] at h
      exact absurd (by simpa using this) h)
  have HNT := Lib.hid (fun (h : ∀ q, q < 5 → (nums x).getD (1 + q) 0 = 0) => show restB x = true from by
    rw [hR, List.all_eq_true]
    intro v hv
    obtain ⟨q, hq, rfl⟩ := List.getElem_of_mem hv
    have hq2 : q < 5 := by first | (simp [nums] at hq; done) | (simp [nums] at hq; omega)
    have := h q hq2
    rw [List.getD_eq_getElem?_getD, List.getElem?_eq_getElem (show 1 + q < (nums x).length by simp [nums]; omega)] at this
    simp only [List.getElem_drop, decide_eq_true_eq]
    simpa using this)
  have HC := Lib.hid (fun (W : World) (g : Nat) (h : Ob.Obj W g 26 (evC x)) (q : Nat) (hq : q < 5) => show W.cell? ⟨g, 4 + q, none⟩ = some (.int .i64 ((nums x).getD (1 + q) 0)) from by
    rw [h.cell (4 + q)]
    match q, hq with
    | 0, _ => rfl
    | 1, _ => rfl
    | 2, _ => rfl
    | 3, _ => rfl
    | 4, _ => rfl
    | j + 5, h2 => exact absurd h2 (by omega))
  have HP := Lib.hid (fun (W : World) (g b : Nat) (h : Ob.Obj W g 66 (ptrC b)) (q : Nat) (hq : q < 5) => show W.cell? ⟨g, 1 + q, none⟩ = some (.pointer (some ⟨b, 4 + q, none⟩)) from by
    rw [h.cell (1 + q)]
    match q, hq with
    | 0, _ => rfl
    | 1, _ => rfl
    | 2, _ => rfl
    | 3, _ => rfl
    | 4, _ => rfl
    | j + 5, h2 => exact absurd h2 (by omega))
  generalize restB x = rb at *
  generalize hNU : (fun j => (nums x).getD j 0) = NU at *
  have hNU2 : ∀ j, (nums x).getD j 0 = NU j := fun j => by rw [← hNU]
  simp only [hNU2] at HNF HNT HC
  clear hNU hNU2 hR hn
  obtain ⟨i, t, k, a, b, c, d, e, f⟩ := x
  unfold evV
  simp only at *
  have oE := Ob.Obj.new w 26 [.int .i64 i, .int .i64 t, .int .i64 k, .int .i64 a, .int .i64 b, .int .i64 c, .int .i64 d, .int .i64 e, .int .i64 f]
  have hA : Below w.heap.size w (w.alloc (.cells #[.int .i64 i, .int .i64 t, .int .i64 k, .int .i64 a, .int .i64 b, .int .i64 c, .int .i64 d, .int .i64 e, .int .i64 f] 26)) := (Below.refl _ _).alloc (Nat.le_refl _) _
  have HN := Lib.hid (fun W => numbers_any w.heap.size W)
  unfold ptrC at HN
  go_enter Try.func30, Try.ntmps30
  go_wp2_with (first
    | (go_at_call 37; (with_reducible refine (HN.out _).mono ?_); rintro e w1 ⟨rfl, hb1⟩; have hB1 := hA.trans (hb1.mono hA.size); have oE1 := oE.below hb1; have oP1 := Ob.Obj.new w1 66 (ptrC w.heap.size); have hB2 := hB1.alloc hB1.size (.cells (ptrC w.heap.size).toArray 66); have oE2 := oE1.alloc (.cells (ptrC w.heap.size).toArray 66); have c2 := oE2.cell 2; simp [ptrC] at c2; have hz2 := oP1.lt)
    | (go_at_call 10; (with_reducible refine (HF.out _).mono ?_); rintro e w3 ⟨rfl, rfl⟩))
  have HB2 := Lib.hid hB2
  have OE2 := Lib.hid oE2
  have OP2 := Lib.hid oP1
  have he2 := oE2.lt
  unfold ptrC at HB2 OE2 OP2 hz2 he2
  clear hB2 oE2 oP1 hB1 oE1 oE hA hb1 c2 HN HF
  go_loopw [12] (fun s wr => ∃ q : Nat, q ≤ 5 ∧ s = .int .i64 (q : Int) ∧ Hid (∀ j, j < q → NU (1 + j) = 0) ∧ Below w.heap.size w wr ∧ Ob.Obj wr w.heap.size 26 (evC ⟨i, t, k, a, b, c, d, e, f⟩) ∧ Ob.Obj wr w1.heap.size 66 (ptrC w.heap.size)) (fun s _ => 5 - (intOf s).toNat)
  case atStart => exact ⟨0, Nat.zero_le _, rfl, (fun j hj => absurd hj (by omega)), HB2.out, OE2.out, OP2.out⟩
  case round =>
    clear HB2 OE2 OP2 hz2 he2
    obtain ⟨q, hq, rfl, hall, hB, oE, oP⟩ := hrel
    obtain ⟨wo, rfl⟩ : ∃ wo : World, wo = wr := ⟨_, rfl⟩
    have he2 := oE.lt
    have hz2 := oP.lt
    by_cases hlt : q < 5
    · have hi1 : (0 : Int) ≤ (q : Int) ∧ (q : Int) < 5 := by omega
      have e0 := HP.out _ _ _ oP q hlt
      have e1 := HC.out _ _ oE q hlt
      have HX := Lib.hid (HNF.out q hlt)
      have HAL := Lib.hid (fun (h : NU (1 + q) = 0) j (hj : j < q + 1) => show NU (1 + j) = 0 from if hjq : j = q then (by rw [hjq]; exact h) else hall.out j (by omega))
      clear hall HC HP HNF HNT
      generalize NU (1 + q) = v at *
      by_cases hv : v = 0
      · subst hv
        have HAL2 := Lib.hid (HAL.out rfl)
        clear HAL HX
        go_wp2_with fail
        go_roundw
        case rel => exact ⟨q + 1, by omega, by go_num, HAL2, hB, oE, oP⟩
        case measure => simp [intOf]; omega
      · have hvb : (v != 0) = true := by simpa using hv
        obtain rfl := HX.out hv
        clear HAL hv
        go_wp2_with fail
        go_ret
        exact ⟨rfl, hB⟩
    · obtain rfl : q = 5 := by omega
      obtain rfl := HNT.out hall.out
      go_wp2_with fail
      go_ret
      exact ⟨rfl, hB⟩

set_option maxRecDepth 100000 in
set_option maxHeartbeats 4000000 in
theorem rest_2 (x : Evt) (hn : fields x.kind = 2) (w : World) :
    Calls Try.prog 30 #[evV x] w fun e w' => e = .returned (.bool (restB x)) ∧ Below w.heap.size w w' := by
  have HF := Lib.hid (fun W => fields_any x.kind W)
  rw [hn] at HF
  have hR : restB x = ((nums x).drop 2).all fun v => decide (v = 0) := by unfold restB many; rw [hn]; rfl
  have HNF := Lib.hid (fun (q : Nat) (hq : q < 4) (h : (nums x).getD (2 + q) 0 ≠ 0) => show restB x = false from by
    rw [hR]
    cases ha : ((nums x).drop 2).all fun v => decide (v = 0) with
    | false => rfl
    | true =>
      have hl : q < ((nums x).drop 2).length := by simp [nums]; omega
      have := List.all_eq_true.1 ha _ (List.getElem_mem hl)
      simp only [List.getElem_drop, decide_eq_true_eq] at this
      rw [List.getD_eq_getElem?_getD, List.getElem?_eq_getElem (show 2 + q < (nums x).length by simp [nums]; omega)] at h
      exact absurd (by simpa using this) h)
  have HNT := Lib.hid (fun (h : ∀ q, q < 4 → (nums x).getD (2 + q) 0 = 0) => show restB x = true from by
    rw [hR, List.all_eq_true]
    intro v hv
    obtain ⟨q, hq, rfl⟩ := List.getElem_of_mem hv
    have hq2 : q < 4 := by first | (simp [nums] at hq; done) | (simp [nums] at hq; omega)
    have := h q hq2
    rw [List.getD_eq_getElem?_getD, List.getElem?_eq_getElem (show 2 + q < (nums x).length by simp [nums]; omega)] at this
    simp only [List.getElem_drop, decide_eq_true_eq]
    simpa using this)
  have HC := Lib.hid (fun (W : World) (g : Nat) (h : Ob.Obj W g 26 (evC x)) (q : Nat) (hq : q < 4) => show W.cell? ⟨g, 5 + q, none⟩ = some (.int .i64 ((nums x).getD (2 + q) 0)) from by
    rw [h.cell (5 + q)]
    match q, hq with
    | 0, _ => rfl
    | 1, _ => rfl
    | 2, _ => rfl
    | 3, _ => rfl
    | j + 4, h2 => exact absurd h2 (by omega))
  have HP := Lib.hid (fun (W : World) (g b : Nat) (h : Ob.Obj W g 66 (ptrC b)) (q : Nat) (hq : q < 4) => show W.cell? ⟨g, 2 + q, none⟩ = some (.pointer (some ⟨b, 5 + q, none⟩)) from by
    rw [h.cell (2 + q)]
    match q, hq with
    | 0, _ => rfl
    | 1, _ => rfl
    | 2, _ => rfl
    | 3, _ => rfl
    | j + 4, h2 => exact absurd h2 (by omega))
  generalize restB x = rb at *
  generalize hNU : (fun j => (nums x).getD j 0) = NU at *
  have hNU2 : ∀ j, (nums x).getD j 0 = NU j := fun j => by rw [← hNU]
  simp only [hNU2] at HNF HNT HC
  clear hNU hNU2 hR hn
  obtain ⟨i, t, k, a, b, c, d, e, f⟩ := x
  unfold evV
  simp only at *
  have oE := Ob.Obj.new w 26 [.int .i64 i, .int .i64 t, .int .i64 k, .int .i64 a, .int .i64 b, .int .i64 c, .int .i64 d, .int .i64 e, .int .i64 f]
  have hA : Below w.heap.size w (w.alloc (.cells #[.int .i64 i, .int .i64 t, .int .i64 k, .int .i64 a, .int .i64 b, .int .i64 c, .int .i64 d, .int .i64 e, .int .i64 f] 26)) := (Below.refl _ _).alloc (Nat.le_refl _) _
  have HN := Lib.hid (fun W => numbers_any w.heap.size W)
  unfold ptrC at HN
  go_enter Try.func30, Try.ntmps30
  go_wp2_with (first
    | (go_at_call 37; (with_reducible refine (HN.out _).mono ?_); rintro e w1 ⟨rfl, hb1⟩; have hB1 := hA.trans (hb1.mono hA.size); have oE1 := oE.below hb1; have oP1 := Ob.Obj.new w1 66 (ptrC w.heap.size); have hB2 := hB1.alloc hB1.size (.cells (ptrC w.heap.size).toArray 66); have oE2 := oE1.alloc (.cells (ptrC w.heap.size).toArray 66); have c2 := oE2.cell 2; simp [ptrC] at c2; have hz2 := oP1.lt)
    | (go_at_call 10; (with_reducible refine (HF.out _).mono ?_); rintro e w3 ⟨rfl, rfl⟩))
  have HB2 := Lib.hid hB2
  have OE2 := Lib.hid oE2
  have OP2 := Lib.hid oP1
  have he2 := oE2.lt
  unfold ptrC at HB2 OE2 OP2 hz2 he2
  clear hB2 oE2 oP1 hB1 oE1 oE hA hb1 c2 HN HF
  go_loopw [12] (fun s wr => ∃ q : Nat, q ≤ 4 ∧ s = .int .i64 (q : Int) ∧ Hid (∀ j, j < q → NU (2 + j) = 0) ∧ Below w.heap.size w wr ∧ Ob.Obj wr w.heap.size 26 (evC ⟨i, t, k, a, b, c, d, e, f⟩) ∧ Ob.Obj wr w1.heap.size 66 (ptrC w.heap.size)) (fun s _ => 4 - (intOf s).toNat)
  case atStart => exact ⟨0, Nat.zero_le _, rfl, (fun j hj => absurd hj (by omega)), HB2.out, OE2.out, OP2.out⟩
  case round =>
    clear HB2 OE2 OP2 hz2 he2
    obtain ⟨q, hq, rfl, hall, hB, oE, oP⟩ := hrel
    obtain ⟨wo, rfl⟩ : ∃ wo : World, wo = wr := ⟨_, rfl⟩
    have he2 := oE.lt
    have hz2 := oP.lt
    by_cases hlt : q < 4
    · have hi1 : (0 : Int) ≤ (q : Int) ∧ (q : Int) < 4 := by omega
      have e0 := HP.out _ _ _ oP q hlt
      have e1 := HC.out _ _ oE q hlt
      have HX := Lib.hid (HNF.out q hlt)
      have HAL := Lib.hid (fun (h : NU (2 + q) = 0) j (hj : j < q + 1) => show NU (2 + j) = 0 from if hjq : j = q then (by rw [hjq]; exact h) else hall.out j (by omega))
      clear hall HC HP HNF HNT
      generalize NU (2 + q) = v at *
      by_cases hv : v = 0
      · subst hv
        have HAL2 := Lib.hid (HAL.out rfl)
        clear HAL HX
        go_wp2_with fail
        go_roundw
        case rel => exact ⟨q + 1, by omega, by go_num, HAL2, hB, oE, oP⟩
        case measure => simp [intOf]; omega
      · have hvb : (v != 0) = true := by simpa using hv
        obtain rfl := HX.out hv
        clear HAL hv
        go_wp2_with fail
        go_ret
        exact ⟨rfl, hB⟩
    · obtain rfl : q = 4 := by omega
      obtain rfl := HNT.out hall.out
      go_wp2_with fail
      go_ret
      exact ⟨rfl, hB⟩

set_option maxRecDepth 100000 in
set_option maxHeartbeats 4000000 in
theorem rest_3 (x : Evt) (hn : fields x.kind = 3) (w : World) :
    Calls Try.prog 30 #[evV x] w fun e w' => e = .returned (.bool (restB x)) ∧ Below w.heap.size w w' := by
  have HF := Lib.hid (fun W => fields_any x.kind W)
  rw [hn] at HF
  have hR : restB x = ((nums x).drop 3).all fun v => decide (v = 0) := by unfold restB many; rw [hn]; rfl
  have HNF := Lib.hid (fun (q : Nat) (hq : q < 3) (h : (nums x).getD (3 + q) 0 ≠ 0) => show restB x = false from by
    rw [hR]
    cases ha : ((nums x).drop 3).all fun v => decide (v = 0) with
    | false => rfl
    | true =>
      have hl : q < ((nums x).drop 3).length := by simp [nums]; omega
      have := List.all_eq_true.1 ha _ (List.getElem_mem hl)
      simp only [List.getElem_drop, decide_eq_true_eq] at this
      rw [List.getD_eq_getElem?_getD, List.getElem?_eq_getElem (show 3 + q < (nums x).length by simp [nums]; omega)] at h
      exact absurd (by simpa using this) h)
  have HNT := Lib.hid (fun (h : ∀ q, q < 3 → (nums x).getD (3 + q) 0 = 0) => show restB x = true from by
    rw [hR, List.all_eq_true]
    intro v hv
    obtain ⟨q, hq, rfl⟩ := List.getElem_of_mem hv
    have hq2 : q < 3 := by first | (simp [nums] at hq; done) | (simp [nums] at hq; omega)
    have := h q hq2
    rw [List.getD_eq_getElem?_getD, List.getElem?_eq_getElem (show 3 + q < (nums x).length by simp [nums]; omega)] at this
    simp only [List.getElem_drop, decide_eq_true_eq]
    simpa using this)
  have HC := Lib.hid (fun (W : World) (g : Nat) (h : Ob.Obj W g 26 (evC x)) (q : Nat) (hq : q < 3) => show W.cell? ⟨g, 6 + q, none⟩ = some (.int .i64 ((nums x).getD (3 + q) 0)) from by
    rw [h.cell (6 + q)]
    match q, hq with
    | 0, _ => rfl
    | 1, _ => rfl
    | 2, _ => rfl
    | j + 3, h2 => exact absurd h2 (by omega))
  have HP := Lib.hid (fun (W : World) (g b : Nat) (h : Ob.Obj W g 66 (ptrC b)) (q : Nat) (hq : q < 3) => show W.cell? ⟨g, 3 + q, none⟩ = some (.pointer (some ⟨b, 6 + q, none⟩)) from by
    rw [h.cell (3 + q)]
    match q, hq with
    | 0, _ => rfl
    | 1, _ => rfl
    | 2, _ => rfl
    | j + 3, h2 => exact absurd h2 (by omega))
  generalize restB x = rb at *
  generalize hNU : (fun j => (nums x).getD j 0) = NU at *
  have hNU2 : ∀ j, (nums x).getD j 0 = NU j := fun j => by rw [← hNU]
  simp only [hNU2] at HNF HNT HC
  clear hNU hNU2 hR hn
  obtain ⟨i, t, k, a, b, c, d, e, f⟩ := x
  unfold evV
  simp only at *
  have oE := Ob.Obj.new w 26 [.int .i64 i, .int .i64 t, .int .i64 k, .int .i64 a, .int .i64 b, .int .i64 c, .int .i64 d, .int .i64 e, .int .i64 f]
  have hA : Below w.heap.size w (w.alloc (.cells #[.int .i64 i, .int .i64 t, .int .i64 k, .int .i64 a, .int .i64 b, .int .i64 c, .int .i64 d, .int .i64 e, .int .i64 f] 26)) := (Below.refl _ _).alloc (Nat.le_refl _) _
  have HN := Lib.hid (fun W => numbers_any w.heap.size W)
  unfold ptrC at HN
  go_enter Try.func30, Try.ntmps30
  go_wp2_with (first
    | (go_at_call 37; (with_reducible refine (HN.out _).mono ?_); rintro e w1 ⟨rfl, hb1⟩; have hB1 := hA.trans (hb1.mono hA.size); have oE1 := oE.below hb1; have oP1 := Ob.Obj.new w1 66 (ptrC w.heap.size); have hB2 := hB1.alloc hB1.size (.cells (ptrC w.heap.size).toArray 66); have oE2 := oE1.alloc (.cells (ptrC w.heap.size).toArray 66); have c2 := oE2.cell 2; simp [ptrC] at c2; have hz2 := oP1.lt)
    | (go_at_call 10; (with_reducible refine (HF.out _).mono ?_); rintro e w3 ⟨rfl, rfl⟩))
  have HB2 := Lib.hid hB2
  have OE2 := Lib.hid oE2
  have OP2 := Lib.hid oP1
  have he2 := oE2.lt
  unfold ptrC at HB2 OE2 OP2 hz2 he2
  clear hB2 oE2 oP1 hB1 oE1 oE hA hb1 c2 HN HF
  go_loopw [12] (fun s wr => ∃ q : Nat, q ≤ 3 ∧ s = .int .i64 (q : Int) ∧ Hid (∀ j, j < q → NU (3 + j) = 0) ∧ Below w.heap.size w wr ∧ Ob.Obj wr w.heap.size 26 (evC ⟨i, t, k, a, b, c, d, e, f⟩) ∧ Ob.Obj wr w1.heap.size 66 (ptrC w.heap.size)) (fun s _ => 3 - (intOf s).toNat)
  case atStart => exact ⟨0, Nat.zero_le _, rfl, (fun j hj => absurd hj (by omega)), HB2.out, OE2.out, OP2.out⟩
  case round =>
    clear HB2 OE2 OP2 hz2 he2
    obtain ⟨q, hq, rfl, hall, hB, oE, oP⟩ := hrel
    obtain ⟨wo, rfl⟩ : ∃ wo : World, wo = wr := ⟨_, rfl⟩
    have he2 := oE.lt
    have hz2 := oP.lt
    by_cases hlt : q < 3
    · have hi1 : (0 : Int) ≤ (q : Int) ∧ (q : Int) < 3 := by omega
      have e0 := HP.out _ _ _ oP q hlt
      have e1 := HC.out _ _ oE q hlt
      have HX := Lib.hid (HNF.out q hlt)
      have HAL := Lib.hid (fun (h : NU (3 + q) = 0) j (hj : j < q + 1) => show NU (3 + j) = 0 from if hjq : j = q then (by rw [hjq]; exact h) else hall.out j (by omega))
      clear hall HC HP HNF HNT
      generalize NU (3 + q) = v at *
      by_cases hv : v = 0
      · subst hv
        have HAL2 := Lib.hid (HAL.out rfl)
        clear HAL HX
        go_wp2_with fail
        go_roundw
        case rel => exact ⟨q + 1, by omega, by go_num, HAL2, hB, oE, oP⟩
        case measure => simp [intOf]; omega
      · have hvb : (v != 0) = true := by simpa using hv
        obtain rfl := HX.out hv
        clear HAL hv
        go_wp2_with fail
        go_ret
        exact ⟨rfl, hB⟩
    · obtain rfl : q = 3 := by omega
      obtain rfl := HNT.out hall.out
      go_wp2_with fail
      go_ret
      exact ⟨rfl, hB⟩

set_option maxRecDepth 100000 in
set_option maxHeartbeats 4000000 in
theorem rest_6 (x : Evt) (hn : fields x.kind = 6) (w : World) :
    Calls Try.prog 30 #[evV x] w fun e w' => e = .returned (.bool (restB x)) ∧ Below w.heap.size w w' := by
  have HF := Lib.hid (fun W => fields_any x.kind W)
  rw [hn] at HF
  have hR : restB x = ((nums x).drop 6).all fun v => decide (v = 0) := by unfold restB many; rw [hn]; rfl
  have HNF := Lib.hid (fun (q : Nat) (hq : q < 0) (h : (nums x).getD (6 + q) 0 ≠ 0) => show restB x = false from by
    rw [hR]
    cases ha : ((nums x).drop 6).all fun v => decide (v = 0) with
    | false => rfl
    | true =>
      have hl : q < ((nums x).drop 6).length := by simp [nums]; omega
      have := List.all_eq_true.1 ha _ (List.getElem_mem hl)
      simp only [List.getElem_drop, decide_eq_true_eq] at this
      rw [List.getD_eq_getElem?_getD, List.getElem?_eq_getElem (show 6 + q < (nums x).length by simp [nums]; omega)] at h
      exact absurd (by simpa using this) h)
  have HNT := Lib.hid (fun (h : ∀ q, q < 0 → (nums x).getD (6 + q) 0 = 0) => show restB x = true from by
    rw [hR, List.all_eq_true]
    intro v hv
    obtain ⟨q, hq, rfl⟩ := List.getElem_of_mem hv
    have hq2 : q < 0 := by first | (simp [nums] at hq; done) | (simp [nums] at hq; omega)
    have := h q hq2
    rw [List.getD_eq_getElem?_getD, List.getElem?_eq_getElem (show 6 + q < (nums x).length by simp [nums]; omega)] at this
    simp only [List.getElem_drop, decide_eq_true_eq]
    simpa using this)
  have HC := Lib.hid (fun (W : World) (g : Nat) (h : Ob.Obj W g 26 (evC x)) (q : Nat) (hq : q < 0) => show W.cell? ⟨g, 9 + q, none⟩ = some (.int .i64 ((nums x).getD (6 + q) 0)) from by
    rw [h.cell (9 + q)]
    match q, hq with

    | j, h2 => exact absurd h2 (by omega))
  have HP := Lib.hid (fun (W : World) (g b : Nat) (h : Ob.Obj W g 66 (ptrC b)) (q : Nat) (hq : q < 0) => show W.cell? ⟨g, 6 + q, none⟩ = some (.pointer (some ⟨b, 9 + q, none⟩)) from by
    rw [h.cell (6 + q)]
    match q, hq with

    | j, h2 => exact absurd h2 (by omega))
  generalize restB x = rb at *
  generalize hNU : (fun j => (nums x).getD j 0) = NU at *
  have hNU2 : ∀ j, (nums x).getD j 0 = NU j := fun j => by rw [← hNU]
  simp only [hNU2] at HNF HNT HC
  clear hNU hNU2 hR hn
  obtain ⟨i, t, k, a, b, c, d, e, f⟩ := x
  unfold evV
  simp only at *
  have oE := Ob.Obj.new w 26 [.int .i64 i, .int .i64 t, .int .i64 k, .int .i64 a, .int .i64 b, .int .i64 c, .int .i64 d, .int .i64 e, .int .i64 f]
  have hA : Below w.heap.size w (w.alloc (.cells #[.int .i64 i, .int .i64 t, .int .i64 k, .int .i64 a, .int .i64 b, .int .i64 c, .int .i64 d, .int .i64 e, .int .i64 f] 26)) := (Below.refl _ _).alloc (Nat.le_refl _) _
  have HN := Lib.hid (fun W => numbers_any w.heap.size W)
  unfold ptrC at HN
  go_enter Try.func30, Try.ntmps30
  go_wp2_with (first
    | (go_at_call 37; (with_reducible refine (HN.out _).mono ?_); rintro e w1 ⟨rfl, hb1⟩; have hB1 := hA.trans (hb1.mono hA.size); have oE1 := oE.below hb1; have oP1 := Ob.Obj.new w1 66 (ptrC w.heap.size); have hB2 := hB1.alloc hB1.size (.cells (ptrC w.heap.size).toArray 66); have oE2 := oE1.alloc (.cells (ptrC w.heap.size).toArray 66); have c2 := oE2.cell 2; simp [ptrC] at c2; have hz2 := oP1.lt)
    | (go_at_call 10; (with_reducible refine (HF.out _).mono ?_); rintro e w3 ⟨rfl, rfl⟩))
  have HB2 := Lib.hid hB2
  have OE2 := Lib.hid oE2
  have OP2 := Lib.hid oP1
  have he2 := oE2.lt
  unfold ptrC at HB2 OE2 OP2 hz2 he2
  clear hB2 oE2 oP1 hB1 oE1 oE hA hb1 c2 HN HF
  go_loopw [12] (fun s wr => ∃ q : Nat, q ≤ 0 ∧ s = .int .i64 (q : Int) ∧ Hid (∀ j, j < q → NU (6 + j) = 0) ∧ Below w.heap.size w wr ∧ Ob.Obj wr w.heap.size 26 (evC ⟨i, t, k, a, b, c, d, e, f⟩) ∧ Ob.Obj wr w1.heap.size 66 (ptrC w.heap.size)) (fun s _ => 0 - (intOf s).toNat)
  case atStart => exact ⟨0, Nat.zero_le _, rfl, (fun j hj => absurd hj (by omega)), HB2.out, OE2.out, OP2.out⟩
  case round =>
    clear HB2 OE2 OP2 hz2 he2
    obtain ⟨q, hq, rfl, hall, hB, oE, oP⟩ := hrel
    obtain ⟨wo, rfl⟩ : ∃ wo : World, wo = wr := ⟨_, rfl⟩
    have he2 := oE.lt
    have hz2 := oP.lt
    by_cases hlt : q < 0
    · exact absurd hlt (by omega)
    · obtain rfl : q = 0 := by omega
      obtain rfl := HNT.out hall.out
      go_wp2_with fail
      go_ret
      exact ⟨rfl, hB⟩

theorem rest_any (x : Evt) (h : 0 ≤ fields x.kind) (w : World) :
    Calls Try.prog 30 #[evV x] w fun e w' => e = .returned (.bool (restB x)) ∧ Below w.heap.size w w' := by
  rcases fields_which h with h | h | h | h | h
  · exact rest_0 x h w
  · exact rest_1 x h w
  · exact rest_2 x h w
  · exact rest_3 x h w
  · exact rest_6 x h w

end Ev
end Go.Proofs.Ytojbcdkiilcppaa

/-
  Plain mathematics of P14.4 to P14.6: rows of events. No program is named here.
-/
namespace Go.Proofs.Ytojbcdkiilcppaa
set_option linter.unusedVariables false
set_option linter.unusedSimpArgs false
namespace Ev
theorem putU_pos (n : Nat) : 0 < (Cd.putU n).length := by
  unfold Cd.putU
  split <;> simp
theorem load_pos (x : Evt) : 0 < (load x).length := by
  unfold load putV
  simp only [List.length_append]
  have := putU_pos x.id.toNat
  omega
theorem putU_le10 {n : Nat} (h : n < 18446744073709551616) : (Cd.putU n).length ≤ 10 := Cd.putU_len10 _ h
theorem flat_len (f : Int → Dat) (m : Nat) : ∀ (L : List Int), (∀ x ∈ L, (f x).length ≤ m) → (L.flatMap f).length ≤ m * L.length
  | [], h => by simp
  | x :: L, h => by
    have h1 := h x (by simp)
    have h2 := flat_len f m L (fun y hy => h y (by simp [hy]))
    rw [List.flatMap_cons, List.length_append, List.length_cons, Nat.mul_add]
    omega
theorem nums_in {x : Evt} (hI : EvIn x) : ∀ v ∈ nums x, W64 v := fun v hv => by
  unfold nums at hv
  simp only [List.mem_cons, List.not_mem_nil, or_false] at hv
  rcases hv with rfl | rfl | rfl | rfl | rfl | rfl
  · exact hI.a
  · exact hI.b
  · exact hI.c
  · exact hI.d
  · exact hI.e
  · exact hI.f
theorem load_len {x : Evt} (hI : EvIn x) : (load x).length ≤ 90 := by
  have h1 : (putV x.id).length ≤ 10 := putU_le10 (by have := hI.id.2; omega)
  have h2 : (putV x.time).length ≤ 10 := putU_le10 (by have := hI.time.2; omega)
  have h3 : (putV x.kind).length ≤ 10 := putU_le10 (by have := hI.kind.2; omega)
  have h4 := flat_len putI 10 ((nums x).take (many x)) (fun v hv => by
    have hv := nums_in hI v (List.mem_of_mem_take hv)
    exact putU_le10 (Cd.zig_lt v hv.1 hv.2))
  have h5 : ((nums x).take (many x)).length ≤ 6 := by rw [List.length_take]; exact Nat.min_le_right _ _
  unfold load
  simp only [List.length_append]
  omega
/-- P14.4 -/
def pack (L : List Evt) : Dat × Nat := if L.all validB = true then (L.flatMap load, 0) else ([], 54)
/-- how far Pack comes -/
def packGo : List Evt → Dat → Dat × Nat
  | [], s => (s, 0)
  | x :: L, s => if validB x = true then packGo L (s ++ load x) else ([], 54)
theorem packGo_eq : ∀ (L : List Evt) (s : Dat), packGo L s = if L.all validB = true then (s ++ L.flatMap load, 0) else ([], 54)
  | [], s => by simp [packGo]
  | x :: L, s => by
    rw [packGo]
    by_cases h : validB x = true
    · rw [if_pos h, packGo_eq L]
      simp [h, List.append_assoc]
    · rw [if_neg h, if_neg (by simp [h])]
theorem pack_eq (L : List Evt) : pack L = packGo L [] := by rw [packGo_eq]; rfl
def unpGo (l : Dat) : Nat → List Evt → Nat → List Evt × Nat × Nat
  | 0, out, at' => (out, 0, 0)
  | f + 1, out, at' => if at' < l.length then (if (dec (l.drop at')).2.2 ≠ 0 then ([], (dec (l.drop at')).2.2, at') else unpGo l f (out ++ [(dec (l.drop at')).1]) (at' + (dec (l.drop at')).2.1)) else (out, 0, 0)
def unpack (l : Dat) : List Evt × Nat × Nat := unpGo l (l.length + 1) [] 0
/-- an event that is read has bytes -/
theorem dec_pos {l : Dat} (h : (dec l).2.2 = 0) : 0 < (dec l).2.1 := by rw [dec_len h]; exact load_pos _
theorem dec_none : dec [] = (zero, 0, 1) ∨ (dec []).2.2 ≠ 0 := by
  refine .inr fun h => ?_
  obtain ⟨_, _, h3, _⟩ := dec_sound h
  have := dec_pos h
  simp at h3
  omega
/-- rows there and back -/
theorem unpGo_load (pre : Dat) : ∀ (L : List Evt) (f : Nat) (out : List Evt), (∀ x ∈ L, validB x = true ∧ EvIn x) → (L.flatMap load).length < f →
    unpGo (pre ++ L.flatMap load) f out pre.length = (out ++ L, 0, 0) := by
  intro L
  induction L generalizing pre with
  | nil =>
    intro f out hL hf
    match f, hf with
    | f + 1, _ => rw [unpGo, if_neg (by simp)]; simp
  | cons x L ih =>
    intro f out hL hf
    have hx := hL x (by simp)
    have hp := load_pos x
    match f, hf with
    | f + 1, hf =>
      have hd : (pre ++ (x :: L).flatMap load).drop pre.length = load x ++ L.flatMap load := by rw [List.drop_left' rfl, List.flatMap_cons]
      have hr := dec_load hx.1 hx.2 (L.flatMap load)
      rw [List.flatMap_cons, List.length_append] at hf
      rw [unpGo, if_pos (by rw [List.flatMap_cons]; simp only [List.length_append]; omega), hd, hr, if_neg (by simp)]
      simp only
      have e1 : pre ++ (x :: L).flatMap load = (pre ++ load x) ++ L.flatMap load := by rw [List.flatMap_cons, List.append_assoc]
      have e2 : pre.length + (load x).length = (pre ++ load x).length := by rw [List.length_append]
      rw [e1, e2, ih (pre ++ load x) f (out ++ [x]) (fun y hy => hL y (by simp [hy])) (by omega)]
      simp
theorem unpack_pack {L : List Evt} (h : (pack L).2 = 0) (hI : ∀ x ∈ L, EvIn x) : unpack (pack L).1 = (L, 0, 0) := by
  unfold pack at h ⊢
  split at h
  · rename_i ha
    rw [if_pos ha]
    have := unpGo_load [] L ((L.flatMap load).length + 1) [] (fun x hx => ⟨List.all_eq_true.1 ha x hx, hI x hx⟩) (by omega)
    simpa [unpack] using this
  · cases h
/-- what a row of bytes says lies within what a word holds -/
theorem unpGo_in (l : Dat) : ∀ (f : Nat) (out : List Evt) (at' : Nat), (∀ x ∈ out, EvIn x) → ∀ x ∈ (unpGo l f out at').1, EvIn x
  | 0, out, at', h => h
  | f + 1, out, at', h => by
    rw [unpGo]
    split
    · split
      · intro x hx; cases hx
      · rename_i h1 h2
        refine unpGo_in l f _ _ (fun x hx => ?_)
        rcases List.mem_append.1 hx with hx | hx
        · exact h x hx
        · simp only [List.mem_singleton] at hx
          subst hx
          exact (dec_sound (by omega)).2.1
    · exact h
/-- no more events than bytes -/
theorem unpGo_len (l : Dat) : ∀ (f : Nat) (out : List Evt) (at' : Nat), out.length ≤ at' → at' ≤ l.length → (unpGo l f out at').1.length ≤ l.length
  | 0, out, at', h, h2 => Nat.le_trans h h2
  | f + 1, out, at', h, h2 => by
    rw [unpGo]
    split
    · split
      · simp
      · rename_i h1 h3
        have hp := dec_pos (l := l.drop at') (by omega)
        obtain ⟨_, _, hl, _⟩ := dec_sound (l := l.drop at') (by omega)
        rw [List.length_drop] at hl
        exact unpGo_len l f _ _ (by rw [List.length_append, List.length_singleton]; omega) (by omega)
    · exact Nat.le_trans h h2
/-- P14.5: is the kind one of these? -/
def hasB (ks : List Int) (k : Int) : Bool := ks.isEmpty || ks.contains k
/-- the places of those, from one on -/
def wantAt (L : List Evt) (ks : List Int) : Nat → Nat → List Nat
  | 0, i => []
  | n + 1, i => match L[i]? with
    | some x => if hasB ks x.kind = true then i :: wantAt L ks n (i + 1) else wantAt L ks n (i + 1)
    | none => []
def want (L : List Evt) (ks : List Int) : List Nat := wantAt L ks L.length 0
end Ev
end Go.Proofs.Ytojbcdkiilcppaa
