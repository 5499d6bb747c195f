import Derived.WalkLawsBesides
import Derived.Deep.DeepCutAuto
import Derived.Deep.Cut
import Derived.Deep.CutRange
import Derived.Deep.CutBlock
import Derived.Deep.LoopGhost
import Derived.Deep.AppendLies
import Derived.Deep.RegionHeld3
import Derived.Deep.RegionLaw
import Derived.StillTailTactics
import Derived.Test.YteckjhhbljoklaaPart4
/-
  Plain mathematics of P4.1: reading a root, thing by thing; what is put again and is the same was the root's own bytes. No program is named here.
-/
namespace Go.Proofs.Yteckjhhbljoklaa
namespace Fi

/-- what is left, and whether there was a fault -/
abbrev TkS := Dat × Bool
def tkNum (most : Nat) (s : TkS) : Nat × TkS :=
  if s.2 = true ∨ (Cd.takeU s.1).2.2 ≠ 0 ∨ most < (Cd.takeU s.1).1 then (0, (s.1, true)) else ((Cd.takeU s.1).1, (s.1.drop (Cd.takeU s.1).2.1, s.2))
def tkText (most : Nat) (s : TkS) : Dat × TkS :=
  if s.2 = true ∨ (Cd.takeT s.1 most).2.2 ≠ 0 then ([], (s.1, true)) else ((Cd.takeT s.1 most).1, (s.1.drop (Cd.takeT s.1 most).2.1, s.2))
def tkRunsGo : Nat → List Int → TkS → List Int × TkS
  | 0, bl, s => (bl, s)
  | k + 1, bl, s => tkRunsGo k (bl ++ runOf (((tkNum 16384 s).1 : Int), (tkNum (16384 - bl.length) (tkNum 16384 s).2).1)) (tkNum (16384 - bl.length) (tkNum 16384 s).2).2
def tkRuns (s : TkS) : List Int × TkS := tkRunsGo (tkNum s.1.length s).1 [] (tkNum s.1.length s).2
def tkFile (s : TkS) : File × TkS :=
  (⟨(tkText 32 s).1, ((tkNum 9223372036854775807 (tkText 32 s).2).1 : Int), (tkRuns (tkNum 9223372036854775807 (tkText 32 s).2).2).1⟩, (tkRuns (tkNum 9223372036854775807 (tkText 32 s).2).2).2)
def tkFiles : Nat → List File → TkS → List File × TkS
  | 0, fs, s => (fs, s)
  | k + 1, fs, s => tkFiles k (fs ++ [(tkFile s).1]) (tkFile s).2
def tkCount (s : TkS) : Nat × TkS := tkNum 64 (tkNum 4611686018427387904 s).2
def tkAll (s : TkS) : List File × TkS := tkFiles (tkCount s).1 [] (tkCount s).2
def tkRoot (l : Dat) : Root := if (tkAll (l, false)).2.2 = true then ⟨0, []⟩ else ⟨(tkNum 4611686018427387904 (l, false)).1, (tkAll (l, false)).1⟩
/-- DecodeRoot, as it is built -/
def decR (l : Dat) (n : Int) : Option Root :=
  if (Fr.take l).2.2 ≠ 0 then none else
  if (encode (tkRoot (Fr.take l).1.2) n).2 = 0 ∧ (encode (tkRoot (Fr.take l).1.2) n).1 = l.take (Fr.take l).2.1 then some (tkRoot (Fr.take l).1.2) else none

theorem putU_ne (n : Nat) : 1 ≤ (Cd.putU n).length := by
  rw [Cd.putU]; split <;> simp
theorem tkNum_put {most a : Nat} (x : Dat) (ha : a ≤ most) (h : a < 18446744073709551616) : tkNum most (Cd.putU a ++ x, false) = (a, (x, false)) := by
  unfold tkNum
  simp only [Cd.takeU_putU a x h]
  rw [if_neg (by simp; omega)]
  simp
theorem tkText_put {most : Nat} {s : Dat} (x : Dat) (hs : s.length ≤ most) (h : most < 18446744073709551616) : tkText most (Cd.putT s ++ x, false) = (s, (x, false)) := by
  have hu : Cd.takeU (Cd.putT s ++ x) = (s.length, (Cd.putU s.length).length, 0) := by
    unfold Cd.putT
    rw [List.append_assoc, Cd.takeU_putU _ _ (by omega)]
  have ht : Cd.takeT (Cd.putT s ++ x) (most : Int) = (s, (Cd.putU s.length).length + s.length, 0) := by
    rw [Cd.takeT_text hu (by simpa using hs) (by unfold Cd.putT; simp)]
    unfold Cd.putT
    rw [List.append_assoc, List.drop_left' rfl, List.take_left' rfl]
  unfold tkText
  simp only [ht]
  rw [if_neg (by simp)]
  unfold Cd.putT
  rw [← List.length_append, List.drop_left' rfl]
theorem runOf_len (p : Int × Nat) : (runOf p).length = p.2 := by simp [runOf]
theorem tkRunsGo_put : ∀ (L : List (Int × Nat)) (bl : List Int) (x : Dat), (∀ p ∈ L, 0 ≤ p.1 ∧ p.1 ≤ 16384) → bl.length + (L.flatMap runOf).length ≤ 16384 → tkRunsGo L.length bl (L.flatMap runB ++ x, false) = (bl ++ L.flatMap runOf, (x, false))
  | [], bl, x, _, _ => by simp [tkRunsGo]
  | p :: r, bl, x, hp, hl => by
    rw [List.flatMap_cons, List.length_append, runOf_len] at hl
    obtain ⟨h0, h1⟩ := hp p (List.mem_cons_self ..)
    have e1 : tkNum 16384 ((p :: r).flatMap runB ++ x, false) = (p.1.toNat, (Cd.putU p.2 ++ (r.flatMap runB ++ x), false)) := by
      rw [List.flatMap_cons]
      unfold runB
      rw [List.append_assoc, List.append_assoc]
      exact tkNum_put _ (by omega) (by omega)
    have e2 : tkNum (16384 - bl.length) (Cd.putU p.2 ++ (r.flatMap runB ++ x), false) = (p.2, (r.flatMap runB ++ x, false)) := tkNum_put _ (by omega) (by omega)
    rw [List.length_cons, tkRunsGo, e1]
    simp only [e2]
    rw [show ((p.1.toNat : Nat) : Int) = p.1 by omega]
    rw [tkRunsGo_put r (bl ++ runOf (p.1, p.2)) x (fun q hq => hp q (List.mem_cons_of_mem _ hq)) (by rw [List.length_append, runOf_len]; simp only; omega)]
    rw [List.flatMap_cons, List.append_assoc]
theorem runB_pos (p : Int × Nat) : 2 ≤ (runB p).length := by
  unfold runB
  rw [List.length_append]
  have := putU_ne p.1.toNat
  have := putU_ne p.2
  omega
theorem flat_pos (L : List (Int × Nat)) : L.length ≤ (L.flatMap runB).length := by
  induction L with
  | nil => simp
  | cons p r ih => rw [List.flatMap_cons, List.length_append, List.length_cons]; have := runB_pos p; omega
theorem runs_first (l : List Int) (h : ∀ b ∈ l, 0 ≤ b ∧ b ≤ 16384) : ∀ p ∈ runs l, 0 ≤ p.1 ∧ p.1 ≤ 16384 := by
  induction hn : l.length using Nat.strongRecOn generalizing l with
  | _ n ih =>
    match l, hn with
    | [], _ => intro p hp; rw [runs] at hp; cases hp
    | y :: r, hn =>
      rw [runs_cons]
      intro p hp
      rcases List.mem_cons.1 hp with rfl | hp
      · exact h y (List.mem_cons_self ..)
      · simp at hn
        exact ih (r.drop (runLen y r)).length (by simp; omega) _ (fun b hb => h b (List.mem_cons_of_mem _ (List.mem_of_mem_drop hb))) rfl p hp
theorem tkRuns_put (l : List Int) (x : Dat) (h : ∀ b ∈ l, 0 ≤ b ∧ b ≤ 16384) (hl : l.length ≤ 16384) : tkRuns (runBytes l ++ x, false) = (l, (x, false)) := by
  unfold tkRuns runBytes
  have hr := runs_len l
  have hp := flat_pos (runs l)
  have e1 : tkNum (Cd.putU (runs l).length ++ (runs l).flatMap runB ++ x).length (Cd.putU (runs l).length ++ (runs l).flatMap runB ++ x, false) = ((runs l).length, ((runs l).flatMap runB ++ x, false)) := by
    have hle : (runs l).length ≤ (Cd.putU (runs l).length ++ (runs l).flatMap runB ++ x).length := by rw [List.length_append, List.length_append]; omega
    generalize (Cd.putU (runs l).length ++ (runs l).flatMap runB ++ x).length = m at *
    rw [List.append_assoc]
    exact tkNum_put _ hle (by omega)
  simp only [e1]
  rw [tkRunsGo_put (runs l) [] x (runs_first l h) (by rw [runs_expand]; simpa using hl), runs_expand]
  rfl
/-- a file that a root may have, as it is read -/
structure FRd (f : File) : Prop where
  name : f.name.length ≤ 32
  size : 0 ≤ f.size ∧ f.size ≤ 9223372036854775807
  blocks : ∀ b ∈ f.blocks, 0 ≤ b ∧ b ≤ 16384
  many : f.blocks.length ≤ 16384
theorem tkFile_put (f : File) (x : Dat) (h : FRd f) : tkFile (fileBytes f ++ x, false) = (f, (x, false)) := by
  unfold tkFile fileBytes
  have hs := h.size
  have e1 : tkText 32 (Cd.putT f.name ++ Cd.putU f.size.toNat ++ runBytes f.blocks ++ x, false) = (f.name, (Cd.putU f.size.toNat ++ (runBytes f.blocks ++ x), false)) := by
    rw [List.append_assoc, List.append_assoc]
    exact tkText_put _ h.name (by omega)
  have e2 : tkNum 9223372036854775807 (Cd.putU f.size.toNat ++ (runBytes f.blocks ++ x), false) = (f.size.toNat, (runBytes f.blocks ++ x, false)) := tkNum_put _ (by omega) (by omega)
  simp only [e1, e2, tkRuns_put f.blocks x h.blocks h.many]
  rw [show ((f.size.toNat : Nat) : Int) = f.size by omega]
theorem tkFiles_put : ∀ (L fs : List File) (x : Dat), (∀ f ∈ L, FRd f) → tkFiles L.length fs (L.flatMap fileBytes ++ x, false) = (fs ++ L, (x, false))
  | [], fs, x, _ => by simp [tkFiles]
  | f :: r, fs, x, h => by
    rw [List.length_cons, tkFiles, List.flatMap_cons, List.append_assoc, tkFile_put f _ (h f (List.mem_cons_self ..))]
    simp only
    rw [tkFiles_put r (fs ++ [f]) x (fun q hq => h q (List.mem_cons_of_mem _ hq)), List.append_assoc]
    rfl
theorem tkRoot_put (r : Root) (hg : r.gen ≤ 4611686018427387904) (hl : r.files.length ≤ 64) (h : ∀ f ∈ r.files, FRd f) : tkRoot (rootLoad r) = r := by
  have e1 : tkNum 4611686018427387904 (rootLoad r, false) = (r.gen, (Cd.putU r.files.length ++ (r.files.flatMap fileBytes ++ []), false)) := by
    unfold rootLoad
    rw [List.append_assoc, List.append_nil]
    exact tkNum_put _ hg (by omega)
  have e2 : tkCount (rootLoad r, false) = (r.files.length, (r.files.flatMap fileBytes ++ [], false)) := by
    unfold tkCount
    rw [e1]
    exact tkNum_put _ hl (by omega)
  have e3 : tkAll (rootLoad r, false) = (r.files, ([], false)) := by
    unfold tkAll
    rw [e2]
    have := tkFiles_put r.files [] [] h
    simpa using this
  unfold tkRoot
  rw [e3, e1]
  rfl
theorem frd_of_may {r : Root} {m : Int} (hm : m ≤ 16384) (h : may r m = true) : ∀ f ∈ r.files, FRd f := by
  obtain ⟨g1, g2, g3, hf⟩ := may_in h
  have hgo : mayGo m r.files none [] = true := by
    unfold may at h
    simp only [Bool.and_eq_true] at h
    exact h.2
  intro f hff
  obtain ⟨k1, k2, k3⟩ := hf f hff
  obtain ⟨l1, l2⟩ := mayGo_len hm hgo List.nodup_nil (fun b hb => by cases hb) f hff
  refine ⟨k3, ⟨k2, ?_⟩, fun b hb => by have := k1 b hb; omega, l1⟩
  unfold takes at l2
  omega
theorem decR_decode (l : Dat) (n : Int) : decR l n = decode l n := by
  have key : ∀ r, IsRoot l n r → decR l n = some r := fun r h => by
    obtain ⟨h1, t, h2⟩ := h
    obtain ⟨a1, b1, c1, d1⟩ := encode_ok h1
    have ft := Fr.take_put (c := 1) (l := rootLoad r) (r := t) (by decide) (put_load b1)
    rw [← d1, h2] at ft
    have hm := may_in a1
    have hr := tkRoot_put r hm.2.1 hm.2.2.1 (frd_of_may (Int.min_le_right _ _) a1)
    unfold decR
    simp only [ft, hr]
    rw [if_neg (by simp), if_pos ⟨h1, by rw [← h2, List.take_left' rfl]⟩]
  cases hd : decode l n with
  | some r => exact key r (decode_iff.1 hd)
  | none =>
    have hn := decode_none.1 hd
    unfold decR
    split
    · rfl
    · split
      · rename_i h
        exact absurd ⟨h.1, by rw [h.2]; exact List.take_prefix _ _⟩ (hn _)
      · rfl

/-! ### bounds of what is read, whatever it is -/
theorem tkNum_le (most : Nat) (s : TkS) : (tkNum most s).1 ≤ most := by
  unfold tkNum
  split
  · exact Nat.zero_le _
  · rename_i h
    simp only
    have : ¬ most < (Cd.takeU s.1).1 := fun hh => h (.inr (.inr hh))
    omega
theorem tkNum_len (most : Nat) (s : TkS) : (tkNum most s).2.1.length ≤ s.1.length := by
  unfold tkNum
  split
  · exact Nat.le_refl _
  · simp
theorem takeT_len (l : Dat) (most : Nat) : (Cd.takeT l most).1.length ≤ most := by
  unfold Cd.takeT
  split
  · simp
  · split
    · simp
    · split
      · simp
      · rename_i h1 h2 h3
        simp at h2 h3 ⊢
        omega
theorem tkText_le (most : Nat) (s : TkS) : (tkText most s).1.length ≤ most := by
  unfold tkText
  split
  · simp
  · exact takeT_len _ _
theorem tkText_len (most : Nat) (s : TkS) : (tkText most s).2.1.length ≤ s.1.length := by
  unfold tkText
  split
  · exact Nat.le_refl _
  · simp
theorem tkRunsGo_in : ∀ (k : Nat) (bl : List Int) (s : TkS), bl.length ≤ 16384 → (∀ b ∈ bl, 0 ≤ b ∧ b ≤ 32768) → (tkRunsGo k bl s).1.length ≤ 16384 ∧ (∀ b ∈ (tkRunsGo k bl s).1, 0 ≤ b ∧ b ≤ 32768) ∧ (tkRunsGo k bl s).2.1.length ≤ s.1.length
  | 0, bl, s, h1, h2 => ⟨h1, h2, Nat.le_refl _⟩
  | k + 1, bl, s, h1, h2 => by
    rw [tkRunsGo]
    have a1 := tkNum_le 16384 s
    have a2 := tkNum_le (16384 - bl.length) (tkNum 16384 s).2
    have a3 := tkNum_len 16384 s
    have a4 := tkNum_len (16384 - bl.length) (tkNum 16384 s).2
    have := tkRunsGo_in k (bl ++ runOf (((tkNum 16384 s).1 : Int), (tkNum (16384 - bl.length) (tkNum 16384 s).2).1)) (tkNum (16384 - bl.length) (tkNum 16384 s).2).2 (by rw [List.length_append, runOf_len]; simp only; omega) (fun b hb => by
      rcases List.mem_append.1 hb with hb | hb
      · exact h2 b hb
      · unfold runOf at hb
        obtain ⟨j, hj, rfl⟩ := List.mem_map.1 hb
        have := List.mem_range.1 hj
        simp only at this ⊢
        omega)
    exact ⟨this.1, this.2.1, by omega⟩
theorem tkRuns_in (s : TkS) : (tkRuns s).1.length ≤ 16384 ∧ (∀ b ∈ (tkRuns s).1, 0 ≤ b ∧ b ≤ 32768) ∧ (tkRuns s).2.1.length ≤ s.1.length := by
  unfold tkRuns
  have h := tkRunsGo_in (tkNum s.1.length s).1 [] (tkNum s.1.length s).2 (by simp) (fun b hb => by cases hb)
  have := tkNum_len s.1.length s
  exact ⟨h.1, h.2.1, by omega⟩
theorem tkFile_in (s : TkS) : FileIn (tkFile s).1 ∧ (tkFile s).2.1.length ≤ s.1.length := by
  unfold tkFile
  have a := tkText_le 32 s
  have b := tkNum_le 9223372036854775807 (tkText 32 s).2
  obtain ⟨c, d, e⟩ := tkRuns_in (tkNum 9223372036854775807 (tkText 32 s).2).2
  have f := tkText_len 32 s
  have g := tkNum_len 9223372036854775807 (tkText 32 s).2
  exact ⟨⟨by simp only; omega, ⟨by simp only; omega, by simp only; omega⟩, by simp only; omega, fun x hx => by have := d x hx; exact ⟨by omega, by omega⟩⟩, by simp only; omega⟩
theorem tkFiles_in : ∀ (k : Nat) (fs : List File) (s : TkS), (∀ f ∈ fs, FileIn f) → (∀ f ∈ (tkFiles k fs s).1, FileIn f) ∧ (tkFiles k fs s).1.length = fs.length + k
  | 0, fs, s, h => ⟨h, rfl⟩
  | k + 1, fs, s, h => by
    rw [tkFiles]
    have := tkFiles_in k (fs ++ [(tkFile s).1]) (tkFile s).2 (fun f hf => by
      rcases List.mem_append.1 hf with hf | hf
      · exact h f hf
      · simp at hf; subst hf; exact (tkFile_in s).1)
    exact ⟨this.1, by rw [this.2, List.length_append, List.length_singleton]; omega⟩
theorem tkRoot_in (l : Dat) : (tkRoot l).gen ≤ 4611686018427387904 ∧ (tkRoot l).files.length ≤ 64 ∧ ∀ f ∈ (tkRoot l).files, FileIn f := by
  unfold tkRoot
  split
  · exact ⟨by simp, by simp, fun f hf => by cases hf⟩
  · have h := tkFiles_in (tkCount (l, false)).1 [] (tkCount (l, false)).2 (fun f hf => by cases hf)
    have h2 := tkNum_le 64 (tkNum 4611686018427387904 (l, false)).2
    refine ⟨tkNum_le _ _, ?_, h.1⟩
    show (tkAll (l, false)).1.length ≤ 64
    unfold tkAll
    rw [h.2]
    unfold tkCount
    simp only [List.length_nil]
    omega
end Fi
end Go.Proofs.Yteckjhhbljoklaa

/-
  Plain mathematics of chapter 5 (wal): puts, batches, their loads; a load tells its batch. No program is named here.
-/
namespace Go.Proofs.Yteckjhhbljoklaa
namespace Cd
/-- what is read as a number is just that number's bytes -/
theorem takeGo_canon (l : List UInt8) : ∀ (i acc n j : Nat), i ≤ 9 → takeGo l i acc = (n, j, 0) → ∃ m, n = acc + m * 128 ^ i ∧ j = i + (putU m).length ∧ l = putU m ++ l.drop (putU m).length ∧ (0 < i → m ≠ 0) := by
  induction l with
  | nil => intro i acc n j _ h; simp [takeGo] at h
  | cons c r ih =>
    intro i acc n j hi h
    by_cases hbad : (i = 9 ∧ 1 < c.toNat) ∨ (0 < i ∧ c.toNat = 0)
    · rw [go_bad hbad] at h; simp at h
    · have hcb := c.toNat_lt
      by_cases hc : c.toNat < 128
      · rw [go_last hbad hc] at h
        have hp : putU c.toNat = [c] := by rw [putU, if_pos hc]; simp
        refine ⟨c.toNat, ?_, ?_, ?_, fun h0 e => hbad (.inr ⟨h0, e⟩)⟩
        · have := congrArg (·.1) h; simp only at this; rw [← this, Nat.mod_eq_of_lt hc]
        · have := congrArg (·.2.1) h; simp only at this; rw [hp]; exact this.symm
        · rw [hp]; rfl
      · rw [go_more hbad (by omega)] at h
        have hi9 : i + 1 ≤ 9 := by
          by_cases h9 : i = 9
          · exact absurd (.inl ⟨h9, by omega⟩) hbad
          · omega
        obtain ⟨m', h1, h2, h3, h4⟩ := ih (i + 1) _ n j hi9 h
        have hm0 := h4 (by omega)
        refine ⟨c.toNat % 128 + 128 * m', ?_, ?_, ?_, fun _ => by omega⟩
        · rw [h1, pow_s, Nat.add_mul, ← Nat.add_assoc]; congr 1; rw [← Nat.mul_assoc, Nat.mul_comm m' 128]
        · have e : putU (c.toNat % 128 + 128 * m') = UInt8.ofNat ((c.toNat % 128 + 128 * m') % 128 + 128) :: putU ((c.toNat % 128 + 128 * m') / 128) := by rw [putU, if_neg (by omega)]
          rw [e, show (c.toNat % 128 + 128 * m') / 128 = m' by omega, List.length_cons, h2]; omega
        · have e : putU (c.toNat % 128 + 128 * m') = UInt8.ofNat ((c.toNat % 128 + 128 * m') % 128 + 128) :: putU ((c.toNat % 128 + 128 * m') / 128) := by rw [putU, if_neg (by omega)]
          have ec : UInt8.ofNat ((c.toNat % 128 + 128 * m') % 128 + 128) = c := by
            rw [show (c.toNat % 128 + 128 * m') % 128 + 128 = c.toNat by omega]; simp
          rw [e, ec, show (c.toNat % 128 + 128 * m') / 128 = m' by omega, List.length_cons, List.drop_succ_cons, List.cons_append, ← h3]
theorem takeU_canon {l : List UInt8} {n k : Nat} (h : takeU l = (n, k, 0)) : l = putU n ++ l.drop k := by
  obtain ⟨m, h1, h2, h3, _⟩ := takeGo_canon l 0 0 n k (by omega) h
  obtain rfl : n = m := by simpa using h1
  rw [show k = (putU n).length by omega]
  exact h3
theorem takeT_canon {l t : List UInt8} {most : Int} {k : Nat} (h : takeT l most = (t, k, 0)) : l = putT t ++ l.drop k := by
  obtain ⟨n, k0, e, hu⟩ : ∃ n k0 e, takeU l = (n, k0, e) := ⟨_, _, _, rfl⟩
  by_cases he : e = 0
  · subst he
    have hl := (takeU_ok l).2.2.1
    rw [hu] at hl
    simp only at hl
    by_cases h1 : most.toNat < n
    · rw [takeT_most hu h1] at h; simp at h
    · by_cases h2 : l.length - k0 < n
      · rw [takeT_more hu (by omega) h2] at h; simp at h
      · rw [takeT_text hu (by omega) (by omega)] at h
        obtain rfl : (l.drop k0).take n = t := congrArg (·.1) h
        obtain rfl : k0 + n = k := congrArg (·.2.1) h
        have hc := takeU_canon hu
        unfold putT
        have hlen : ((l.drop k0).take n).length = n := by rw [List.length_take, List.length_drop]; omega
        rw [hlen, List.append_assoc, ← List.drop_drop, List.take_append_drop]
        exact hc
  · rw [takeT_err hu he] at h
    exact absurd (congrArg (·.2.2) h) he
end Cd

namespace Wa
open Fi (Dat TkS tkNum tkText)
abbrev putT : Gn.Ty := .struct (.cons .str (.cons .str (.cons .bool .nil)))
abbrev batchT : Gn.Ty := .struct (.cons (.int .u64) (.cons (.slice putT) .nil))
/-- a put: its key, its value, whether it takes away -/
abbrev Pt := List UInt8 × List UInt8 × Bool × Unit
abbrev Bt := Int × List Pt × Unit
/-- P5.2: may a put be? -/
def mayB (p : Pt) : Bool := decide (1 ≤ p.1.length) && decide (p.1.length ≤ 96) && decide (p.2.1.length ≤ 16384) && (!p.2.2.1 || decide (p.2.1 = []))
/-- P5.3: a put as bytes -/
def putB (p : Pt) : Dat := if p.2.2.1 = true then 1 :: Cd.putT p.1 else 0 :: (Cd.putT p.1 ++ Cd.putT p.2.1)
def load (seq : Nat) (l : List Pt) : Dat := Cd.putU seq ++ Cd.putU l.length ++ l.flatMap putB
def MaxSeq : Nat := 1125899906842624
/-- P5.2: Check -/
def check (l : List Pt) : Nat := if l.length ≤ 256 ∧ (∀ p ∈ l, mayB p = true) ∧ (load MaxSeq l).length ≤ 262144 then 0 else 1
/-- P5.3: may a batch be? -/
def Right (b : Bt) : Prop := check b.2.1 = 0 ∧ 0 < b.2.1.length ∧ 1 ≤ b.1 ∧ b.1 ≤ MaxSeq ∧ b.1 + b.2.1.length - 1 ≤ MaxSeq
instance (b : Bt) : Decidable (Right b) := by unfold Right; infer_instance
/-- P5.3: Encode -/
def encode (b : Bt) : Dat × Nat := if Right b then Fr.put 2 (load b.1.toNat b.2.1) else ([], 1)
def IsLoad (l : Dat) (b : Bt) : Prop := Right b ∧ load b.1.toNat b.2.1 = l
open Classical in
/-- P5.4: Decode -/
noncomputable def decode (l : Dat) : Option Bt := if h : ∃ b, IsLoad l b then some h.choose else none
def last (b : Bt) : Int := b.1 + b.2.1.length - 1
/-- P5.5, over the frames that stand one behind the other: each with its place; the place behind all -/
noncomputable def repGo : List (Nat × (UInt8 × Dat)) → Int → Nat → List Bt × Nat
  | [], _, e => ([], e)
  | x :: r, seq, e =>
    match (if x.2.1 = 2 then decode x.2.2 else none) with
    | some b => if seq < b.1 then (b :: (repGo r (last b) e).1, (repGo r (last b) e).2) else ([], x.1)
    | none => ([], x.1)
noncomputable def replay (s : Dat) : List Bt × Nat := repGo (Fr.allGo s 0).1 0 (Fr.allGo s 0).2

/-! ### a load tells its batch -/
theorem putB_inj {p q : Pt} {x y : Dat} (hp : mayB p = true) (hq : mayB q = true) (h : putB p ++ x = putB q ++ y) : p = q ∧ x = y := by
  obtain ⟨pk, pv, pd, _⟩ := p
  obtain ⟨qk, qv, qd, _⟩ := q
  simp [mayB] at hp hq
  cases pd <;> cases qd <;> simp only [putB, if_true, if_false, Bool.false_eq_true, List.cons_append] at h
  · have h' := List.cons.inj h
    have h2 := h'.2
    rw [List.append_assoc, List.append_assoc] at h2
    obtain ⟨e1, h3⟩ := Fi.putT_inj (by omega) (by omega) h2
    obtain ⟨e2, h4⟩ := Fi.putT_inj (by omega) (by omega) h3
    exact ⟨by rw [e1, e2], h4⟩
  · exact absurd (List.cons.inj h).1 (by decide)
  · exact absurd (List.cons.inj h).1 (by decide)
  · obtain ⟨e1, h3⟩ := Fi.putT_inj (by omega) (by omega) (List.cons.inj h).2
    have v1 := hp.2
    have v2 := hq.2
    simp at v1 v2
    exact ⟨by rw [e1, v1, v2], h3⟩
theorem puts_inj : ∀ {L L' : List Pt} {x y : Dat}, L.length = L'.length → (∀ p ∈ L, mayB p = true) → (∀ p ∈ L', mayB p = true) → L.flatMap putB ++ x = L'.flatMap putB ++ y → L = L' ∧ x = y
  | [], [], x, y, _, _, _, h => ⟨rfl, by simpa using h⟩
  | [], q :: r, _, _, hl, _, _, _ => by simp at hl
  | p :: r, [], _, _, hl, _, _, _ => by simp at hl
  | p :: r, q :: r', x, y, hl, hp, hq, h => by
    rw [List.flatMap_cons, List.flatMap_cons, List.append_assoc, List.append_assoc] at h
    obtain ⟨h1, h2⟩ := putB_inj (hp p (List.mem_cons_self ..)) (hq q (List.mem_cons_self ..)) h
    obtain ⟨h3, h4⟩ := puts_inj (by simpa using hl) (fun z hz => hp z (List.mem_cons_of_mem _ hz)) (fun z hz => hq z (List.mem_cons_of_mem _ hz)) h2
    exact ⟨by rw [h1, h3], h4⟩
theorem check_ok {l : List Pt} (h : check l = 0) : l.length ≤ 256 ∧ (∀ p ∈ l, mayB p = true) ∧ (load MaxSeq l).length ≤ 262144 := by
  unfold check at h
  split at h
  · assumption
  · cases h
theorem isLoad_same {l : Dat} {b c : Bt} (h1 : IsLoad l b) (h2 : IsLoad l c) : b = c := by
  obtain ⟨⟨r1, r2, r3, r4, r5⟩, e1⟩ := h1
  obtain ⟨⟨s1, s2, s3, s4, s5⟩, e2⟩ := h2
  obtain ⟨bs, bp, _⟩ := b
  obtain ⟨cs, cp, _⟩ := c
  simp only at *
  obtain ⟨k1, k2, _⟩ := check_ok r1
  obtain ⟨m1, m2, _⟩ := check_ok s1
  have hM : MaxSeq = 1125899906842624 := rfl
  rw [← e2] at e1
  unfold load at e1
  rw [List.append_assoc, List.append_assoc] at e1
  obtain ⟨a1, a2⟩ := Fi.putU_inj (by omega) (by omega) e1
  obtain ⟨b1, b2⟩ := Fi.putU_inj (by omega) (by omega) a2
  obtain ⟨c1, _⟩ := puts_inj (x := []) (y := []) b1 k2 m2 (by simpa using b2)
  rw [c1, show bs = cs by omega]
theorem decode_iff {l : Dat} {b : Bt} : decode l = some b ↔ IsLoad l b := by
  unfold decode
  constructor
  · intro h
    split at h
    · rename_i hx
      rw [← Option.some.inj h]
      exact hx.choose_spec
    · cases h
  · intro h
    have hx : ∃ b, IsLoad l b := ⟨b, h⟩
    rw [dif_pos hx]
    exact congrArg some (isLoad_same hx.choose_spec h)
theorem decode_none {l : Dat} : decode l = none ↔ ∀ b, ¬ IsLoad l b := by
  unfold decode
  constructor
  · intro h b hb
    rw [dif_pos ⟨b, hb⟩] at h
    cases h
  · intro h
    rw [dif_neg (fun ⟨b, hb⟩ => h b hb)]

/-! ### reading one, thing by thing, as the document does -/
def rdPut (s : TkS) : Pt × TkS :=
  if (tkNum 1 s).1 = 0 then (((tkText 96 (tkNum 1 s).2).1, (tkText 16384 (tkText 96 (tkNum 1 s).2).2).1, false, ()), (tkText 16384 (tkText 96 (tkNum 1 s).2).2).2)
  else (((tkText 96 (tkNum 1 s).2).1, [], true, ()), (tkText 96 (tkNum 1 s).2).2)
def rdPuts : Nat → List Pt → TkS → List Pt × TkS
  | 0, l, s => (l, s)
  | k + 1, l, s => if s.2 = true then (l, s) else rdPuts k (l ++ [(rdPut s).1]) (rdPut s).2
def rdCount (s : TkS) : Nat × TkS := tkNum 256 (tkNum MaxSeq s).2
def rdAll (s : TkS) : List Pt × TkS := rdPuts (rdCount s).1 [] (rdCount s).2
def rdB (l : Dat) : Bt := (((tkNum MaxSeq (l, false)).1 : Int), (rdAll (l, false)).1, ())
def decR (l : Dat) : Option Bt := if (rdAll (l, false)).2 = ([], false) ∧ Right (rdB l) then some (rdB l) else none

theorem tkNum_sound {most : Nat} {s : TkS} (h : (tkNum most s).2.2 = false) : s.2 = false ∧ s.1 = Cd.putU (tkNum most s).1 ++ (tkNum most s).2.1 := by
  unfold tkNum at h ⊢
  split at h
  · simp at h
  · rename_i hx
    rw [if_neg hx]
    simp only at h ⊢
    refine ⟨h, Cd.takeU_canon (k := (Cd.takeU s.1).2.1) ?_⟩
    have h0 : (Cd.takeU s.1).2.2 = 0 := by
      by_cases h0 : (Cd.takeU s.1).2.2 = 0
      · exact h0
      · exact absurd (.inr (.inl h0)) hx
    rw [← h0]
theorem tkText_sound {most : Nat} {s : TkS} (h : (tkText most s).2.2 = false) : s.2 = false ∧ s.1 = Cd.putT (tkText most s).1 ++ (tkText most s).2.1 := by
  unfold tkText at h ⊢
  split at h
  · simp at h
  · rename_i hx
    rw [if_neg hx]
    simp only at h ⊢
    refine ⟨h, Cd.takeT_canon (most := most) (k := (Cd.takeT s.1 most).2.1) ?_⟩
    have h0 : (Cd.takeT s.1 most).2.2 = 0 := by
      by_cases h0 : (Cd.takeT s.1 most).2.2 = 0
      · exact h0
      · exact absurd (.inr h0) hx
    rw [← h0]
theorem putU_0 : Cd.putU 0 = [0] := by rw [Cd.putU]; rfl
theorem putU_1 : Cd.putU 1 = [1] := by rw [Cd.putU]; rfl
theorem rdPut_sound {s : TkS} (h : (rdPut s).2.2 = false) : s.2 = false ∧ s.1 = putB (rdPut s).1 ++ (rdPut s).2.1 := by
  unfold rdPut at h ⊢
  split at h
  · rename_i hx
    rw [if_pos hx]
    simp only at h ⊢
    obtain ⟨h1, e1⟩ := tkText_sound h
    obtain ⟨h2, e2⟩ := tkText_sound h1
    obtain ⟨h3, e3⟩ := tkNum_sound h2
    refine ⟨h3, ?_⟩
    rw [hx, putU_0] at e3
    rw [e3, e2, e1]
    simp [putB]
  · rename_i hx
    rw [if_neg hx]
    simp only at h ⊢
    obtain ⟨h2, e2⟩ := tkText_sound h
    obtain ⟨h3, e3⟩ := tkNum_sound h2
    have hle := Fi.tkNum_le 1 s
    refine ⟨h3, ?_⟩
    rw [show (tkNum 1 s).1 = 1 by omega, putU_1] at e3
    rw [e3, e2]
    simp [putB]
theorem rdPuts_sound : ∀ (k : Nat) (l : List Pt) (s : TkS), (rdPuts k l s).2.2 = false → s.2 = false ∧ ∃ L, (rdPuts k l s).1 = l ++ L ∧ L.length = k ∧ s.1 = L.flatMap putB ++ (rdPuts k l s).2.1
  | 0, l, s, h => ⟨h, [], by simp [rdPuts], rfl, by simp [rdPuts]⟩
  | k + 1, l, s, h => by
    rw [rdPuts] at h ⊢
    split at h
    · rename_i hs; rw [hs] at h; cases h
    · rename_i hs
      rw [if_neg hs]
      obtain ⟨h1, L, e1, e2, e3⟩ := rdPuts_sound k _ _ h
      obtain ⟨h2, e4⟩ := rdPut_sound h1
      exact ⟨h2, (rdPut s).1 :: L, by rw [e1, List.append_assoc]; rfl, by rw [List.length_cons, e2], by rw [List.flatMap_cons, List.append_assoc, ← e3]; exact e4⟩
theorem rdPut_put {p : Pt} {x : Dat} (hp : mayB p = true) : rdPut (putB p ++ x, false) = (p, (x, false)) := by
  obtain ⟨pk, pv, pd, _⟩ := p
  simp [mayB] at hp
  cases pd
  · have e1 : tkNum 1 (putB (pk, pv, false, ()) ++ x, false) = (0, (Cd.putT pk ++ (Cd.putT pv ++ x), false)) := by
      have := Fi.tkNum_put (most := 1) (a := 0) (Cd.putT pk ++ (Cd.putT pv ++ x)) (by omega) (by omega)
      rw [putU_0] at this
      simpa [putB] using this
    unfold rdPut
    rw [e1]
    simp only [if_true]
    rw [Fi.tkText_put _ (by omega) (by omega)]
    simp only
    rw [Fi.tkText_put _ (by omega) (by omega)]
  · have e1 : tkNum 1 (putB (pk, pv, true, ()) ++ x, false) = (1, (Cd.putT pk ++ x, false)) := by
      have := Fi.tkNum_put (most := 1) (a := 1) (Cd.putT pk ++ x) (by omega) (by omega)
      rw [putU_1] at this
      simpa [putB] using this
    unfold rdPut
    rw [e1]
    simp only
    rw [if_neg (by omega), Fi.tkText_put _ (by omega) (by omega)]
    have := hp.2
    simp at this
    rw [this]
theorem rdPuts_put : ∀ (L l : List Pt) (x : Dat), (∀ p ∈ L, mayB p = true) → rdPuts L.length l (L.flatMap putB ++ x, false) = (l ++ L, (x, false))
  | [], l, x, _ => by simp [rdPuts]
  | p :: r, l, x, h => by
    rw [List.length_cons, rdPuts, if_neg (by simp), List.flatMap_cons, List.append_assoc, rdPut_put (h p (List.mem_cons_self ..))]
    simp only
    rw [rdPuts_put r _ x (fun q hq => h q (List.mem_cons_of_mem _ hq)), List.append_assoc]
    rfl
theorem decR_decode (l : Dat) : decR l = decode l := by
  have hM : MaxSeq = 1125899906842624 := rfl
  cases hd : decode l with
  | some b =>
    obtain ⟨hr, hl⟩ := decode_iff.1 hd
    have hr0 := hr
    obtain ⟨r1, r2, r3, r4, r5⟩ := hr
    obtain ⟨k1, k2, _⟩ := check_ok r1
    have e1 : tkNum MaxSeq (l, false) = (b.1.toNat, (Cd.putU b.2.1.length ++ (b.2.1.flatMap putB ++ []), false)) := by
      rw [← hl]; unfold load
      rw [List.append_assoc, List.append_nil]
      exact Fi.tkNum_put _ (by omega) (by omega)
    have e2 : rdCount (l, false) = (b.2.1.length, (b.2.1.flatMap putB ++ [], false)) := by
      unfold rdCount
      rw [e1]
      exact Fi.tkNum_put _ k1 (by omega)
    have e3 : rdAll (l, false) = (b.2.1, ([], false)) := by
      unfold rdAll
      rw [e2]
      have := rdPuts_put b.2.1 [] [] k2
      simpa using this
    have e4 : rdB l = b := by
      unfold rdB
      rw [e3, e1]
      obtain ⟨bs, bp, _⟩ := b
      simp only at r3 ⊢
      rw [show ((bs.toNat : Nat) : Int) = bs by omega]
    unfold decR
    rw [e3, e4, if_pos ⟨rfl, hr0⟩]
  | none =>
    have hn := decode_none.1 hd
    unfold decR
    split
    · rename_i h
      refine absurd ⟨h.2, ?_⟩ (hn (rdB l))
      have h1 := h.1
      have hb : (rdPuts (rdCount (l, false)).1 [] (rdCount (l, false)).2).2.2 = false := congrArg (·.2) h1
      obtain ⟨g1, L, g2, g3, g4⟩ := rdPuts_sound _ _ _ hb
      have hrest : (rdPuts (rdCount (l, false)).1 [] (rdCount (l, false)).2).2.1 = [] := congrArg (·.1) h1
      rw [hrest, List.append_nil] at g4
      obtain ⟨g5, g6⟩ := tkNum_sound (s := (tkNum MaxSeq (l, false)).2) (most := 256) g1
      obtain ⟨_, g7⟩ := tkNum_sound (s := (l, false)) (most := MaxSeq) g5
      have hL : (rdB l).2.1 = L := by unfold rdB rdAll; rw [g2]; rfl
      unfold load
      rw [hL]
      show Cd.putU (((tkNum MaxSeq (l, false)).1 : Int)).toNat ++ Cd.putU L.length ++ L.flatMap putB = l
      have g7' : l = Cd.putU (tkNum MaxSeq (l, false)).1 ++ (tkNum MaxSeq (l, false)).2.1 := g7
      have hk : L.length = (tkNum 256 (tkNum MaxSeq (l, false)).2).1 := g3
      rw [Int.toNat_natCast, hk, List.append_assoc, ← g4]
      exact (congrArg (Cd.putU (tkNum MaxSeq (l, false)).1 ++ ·) g6).symm.trans g7'.symm
    · rfl
end Wa
end Go.Proofs.Yteckjhhbljoklaa

/-
  Plain mathematics of P10.2: what an edit's bytes say, by two readers (the chapter's and the program's); both read just the bytes that Encode makes. No program is named here.
-/
namespace Go.Proofs.Yteckjhhbljoklaa
set_option linter.unusedVariables false
set_option linter.unusedSimpArgs false
namespace Mf
open Fi (TkS tkNum tkText Dat)
/-- such a reader reads what such a writer wrote, and nothing else -/
structure Rds {α : Type} (P : TkS → α × TkS) (put : α → List UInt8) (ok : α → Prop) : Prop where
  sound : ∀ s, (P s).2.2 = false → s.2 = false ∧ s.1 = put (P s).1 ++ (P s).2.1
  whole : ∀ a x, ok a → P (put a ++ x, false) = (a, (x, false))
/-- the program's reader -/
def dvNum (s : TkS) : Nat × TkS := ((Cd.takeU s.1).1, (s.1.drop (Cd.takeU s.1).2.1, s.2 || decide ((Cd.takeU s.1).2.2 ≠ 0)))
def dvSmall (most : Nat) (s : TkS) : Nat × TkS := if most < (dvNum s).1 then (0, ((dvNum s).2.1, true)) else dvNum s
def dvKey (s : TkS) : Dat × TkS := ((Cd.takeT s.1 96).1, (s.1.drop (Cd.takeT s.1 96).2.1, s.2 || decide ((Cd.takeT s.1 96).2.2 ≠ 0)))
theorem tkNum_rds (most : Nat) (hm : most < 18446744073709551616) : Rds (tkNum most) Cd.putU (fun a => a ≤ most) where
  sound s h := by
    unfold tkNum at h ⊢
    split at h
    · cases h
    · rename_i hn
      rw [if_neg hn]
      simp only [not_or, Bool.not_eq_true, ne_eq, Decidable.not_not] at hn
      obtain ⟨h1, h2, h3⟩ := hn
      exact ⟨h1, Cd.takeU_canon (n := (Cd.takeU s.1).1) (k := (Cd.takeU s.1).2.1) (by rw [← h2])⟩
  whole a x h := Fi.tkNum_put x h (by omega)
theorem tkText_rds (most : Nat) (hm : most < 18446744073709551616) : Rds (tkText most) Cd.putT (fun a => a.length ≤ most) where
  sound s h := by
    unfold tkText at h ⊢
    split at h
    · cases h
    · rename_i hn
      rw [if_neg hn]
      simp only [not_or, Bool.not_eq_true, ne_eq, Decidable.not_not] at hn
      obtain ⟨h1, h2⟩ := hn
      exact ⟨h1, Cd.takeT_canon (t := (Cd.takeT s.1 most).1) (k := (Cd.takeT s.1 most).2.1) (most := most) (by rw [← h2])⟩
  whole a x h := Fi.tkText_put x h hm
theorem dvNum_rds : Rds dvNum Cd.putU (fun a => a < 18446744073709551616) where
  sound s h := by
    unfold dvNum at h ⊢
    simp only [Bool.or_eq_false_iff, decide_eq_false_iff_not, ne_eq, Decidable.not_not] at h
    obtain ⟨h1, h2⟩ := h
    exact ⟨h1, Cd.takeU_canon (n := (Cd.takeU s.1).1) (k := (Cd.takeU s.1).2.1) (by rw [← h2])⟩
  whole a x h := by
    unfold dvNum
    simp only [Cd.takeU_putU a x h]
    simp
theorem dvSmall_rds (most : Nat) (hm : most < 18446744073709551616) : Rds (dvSmall most) Cd.putU (fun a => a ≤ most) where
  sound s h := by
    unfold dvSmall at h ⊢
    split at h
    · cases h
    · rename_i hn
      rw [if_neg hn]
      exact dvNum_rds.sound s h
  whole a x h := by
    unfold dvSmall
    rw [dvNum_rds.whole a x (by omega)]
    exact if_neg (by simp only; omega)
theorem dvKey_rds : Rds dvKey Cd.putT (fun a => a.length ≤ 96) where
  sound s h := by
    unfold dvKey at h ⊢
    simp only [Bool.or_eq_false_iff, decide_eq_false_iff_not, ne_eq, Decidable.not_not] at h
    obtain ⟨h1, h2⟩ := h
    exact ⟨h1, Cd.takeT_canon (t := (Cd.takeT s.1 96).1) (k := (Cd.takeT s.1 96).2.1) (most := 96) (by rw [← h2])⟩
  whole a x h := by
    have hu : Cd.takeU (Cd.putT a ++ x) = (a.length, (Cd.putU a.length).length, 0) := by
      unfold Cd.putT
      rw [List.append_assoc, Cd.takeU_putU _ _ (by omega)]
    have ht : Cd.takeT (Cd.putT a ++ x) 96 = (a, (Cd.putU a.length).length + a.length, 0) := by
      rw [Cd.takeT_text hu (by simpa using h) (by unfold Cd.putT; simp)]
      unfold Cd.putT
      rw [List.append_assoc, List.drop_left' rfl, List.take_left' rfl]
    unfold dvKey
    simp only [ht]
    unfold Cd.putT
    rw [show (Cd.putU a.length).length + a.length = (Cd.putU a.length ++ a).length by simp, List.drop_left' rfl]
    simp
/-- a table -/
def tabBy (pn pl ps : TkS → Nat × TkS) (pk : TkS → Dat × TkS) (s : TkS) : Tbl × TkS :=
  (⟨((pn s).1 : Int), ((pl (pn s).2).1 : Int), ((ps (pl (pn s).2).2).1 : Int), ((ps (ps (pl (pn s).2).2).2).1 : Int), (pk (ps (ps (pl (pn s).2).2).2).2).1, (pk (pk (ps (ps (pl (pn s).2).2).2).2).2).1⟩,
    (pk (pk (ps (ps (pl (pn s).2).2).2).2).2).2)
theorem tabBy_rds {pn pl ps : TkS → Nat × TkS} {pk : TkS → Dat × TkS} {on ol os : Nat → Prop} {ok : Dat → Prop} (hn : Rds pn Cd.putU on) (hl : Rds pl Cd.putU ol) (hs : Rds ps Cd.putU os) (hk : Rds pk Cd.putT ok) :
    Rds (tabBy pn pl ps pk) putTab (fun x => 0 ≤ x.num ∧ on x.num.toNat ∧ 0 ≤ x.lev ∧ ol x.lev.toNat ∧ 0 ≤ x.siz ∧ os x.siz.toNat ∧ 0 ≤ x.cnt ∧ os x.cnt.toNat ∧ ok x.lo ∧ ok x.hi) where
  sound s h := by
    obtain ⟨h1, e1⟩ := hk.sound _ h
    obtain ⟨h2, e2⟩ := hk.sound _ h1
    obtain ⟨h3, e3⟩ := hs.sound _ h2
    obtain ⟨h4, e4⟩ := hs.sound _ h3
    obtain ⟨h5, e5⟩ := hl.sound _ h4
    obtain ⟨h6, e6⟩ := hn.sound _ h5
    refine ⟨h6, ?_⟩
    unfold tabBy putTab
    simp only [Int.toNat_natCast, List.append_assoc]
    rw [← e1, ← e2, ← e3, ← e4, ← e5]
    exact e6
  whole a x h := by
    obtain ⟨a0, o1, b0, o2, c0, o3, d0, o4, o5, o6⟩ := h
    obtain ⟨n, l, s, c, lo, hi⟩ := a
    obtain ⟨n, rfl⟩ := Int.eq_ofNat_of_zero_le a0
    obtain ⟨l, rfl⟩ := Int.eq_ofNat_of_zero_le b0
    obtain ⟨s, rfl⟩ := Int.eq_ofNat_of_zero_le c0
    obtain ⟨c, rfl⟩ := Int.eq_ofNat_of_zero_le d0
    simp only [Int.toNat_natCast] at o1 o2 o3 o4 o5 o6
    unfold tabBy putTab
    simp only [Int.toNat_natCast, List.append_assoc]
    rw [hn.whole n _ o1]
    simp only
    rw [hl.whole l _ o2]
    simp only
    rw [hs.whole s _ o3]
    simp only
    rw [hs.whole c _ o4]
    simp only
    rw [hk.whole lo _ o5]
    simp only
    rw [hk.whole hi _ o6]
/-- so many, one behind the other -/
def goA {α : Type} (P : TkS → α × TkS) : Nat → List α → TkS → List α × TkS
  | 0, L, s => (L, s)
  | k + 1, L, s => goA P k (L ++ [(P s).1]) (P s).2
/-- so many, as long as all is well -/
def goS {α : Type} (P : TkS → α × TkS) : Nat → List α → TkS → List α × TkS
  | 0, L, s => (L, s)
  | k + 1, L, s => if s.2 = true then (L, s) else goS P k (L ++ [(P s).1]) (P s).2
theorem goA_sound {α : Type} {P : TkS → α × TkS} {put : α → List UInt8} {ok : α → Prop} (h : Rds P put ok) : ∀ (k : Nat) (L : List α) (s : TkS), (goA P k L s).2.2 = false → s.2 = false ∧ ∃ M, (goA P k L s).1 = L ++ M ∧ M.length = k ∧ s.1 = M.flatMap put ++ (goA P k L s).2.1
  | 0, L, s, hb => ⟨hb, [], by simp [goA], rfl, by simp [goA]⟩
  | k + 1, L, s, hb => by
    rw [goA] at hb ⊢
    obtain ⟨h1, M, h2, h3, h4⟩ := goA_sound h k _ _ hb
    obtain ⟨g1, g2⟩ := h.sound s h1
    refine ⟨g1, (P s).1 :: M, by rw [h2]; simp, by simp [h3], ?_⟩
    rw [List.flatMap_cons, List.append_assoc, ← h4]
    exact g2
theorem goS_sound {α : Type} {P : TkS → α × TkS} {put : α → List UInt8} {ok : α → Prop} (h : Rds P put ok) : ∀ (k : Nat) (L : List α) (s : TkS), (goS P k L s).2.2 = false → s.2 = false ∧ ∃ M, (goS P k L s).1 = L ++ M ∧ M.length = k ∧ s.1 = M.flatMap put ++ (goS P k L s).2.1
  | 0, L, s, hb => ⟨hb, [], by simp [goS], rfl, by simp [goS]⟩
  | k + 1, L, s, hb => by
    rw [goS] at hb ⊢
    split at hb
    · rename_i hs; simp only at hb; rw [hs] at hb; cases hb
    · rename_i hs
      rw [if_neg hs]
      obtain ⟨h1, M, h2, h3, h4⟩ := goS_sound h k _ _ hb
      obtain ⟨g1, g2⟩ := h.sound s h1
      refine ⟨g1, (P s).1 :: M, by rw [h2]; simp, by simp [h3], ?_⟩
      rw [List.flatMap_cons, List.append_assoc, ← h4]
      exact g2
theorem goA_whole {α : Type} {P : TkS → α × TkS} {put : α → List UInt8} {ok : α → Prop} (h : Rds P put ok) : ∀ (M L : List α) (x : Dat), (∀ m ∈ M, ok m) → goA P M.length L (M.flatMap put ++ x, false) = (L ++ M, (x, false))
  | [], L, x, _ => by simp [goA]
  | a :: M, L, x, hm => by
    rw [List.length_cons, goA, List.flatMap_cons, List.append_assoc, h.whole a _ (hm a (List.mem_cons_self ..))]
    simp only
    rw [goA_whole h M (L ++ [a]) x (fun m hh => hm m (List.mem_cons_of_mem _ hh))]
    simp
theorem goS_whole {α : Type} {P : TkS → α × TkS} {put : α → List UInt8} {ok : α → Prop} (h : Rds P put ok) : ∀ (M L : List α) (x : Dat), (∀ m ∈ M, ok m) → goS P M.length L (M.flatMap put ++ x, false) = (L ++ M, (x, false))
  | [], L, x, _ => by simp [goS]
  | a :: M, L, x, hm => by
    rw [List.length_cons, goS, if_neg (by simp), List.flatMap_cons, List.append_assoc, h.whole a _ (hm a (List.mem_cons_self ..))]
    simp only
    rw [goS_whole h M (L ++ [a]) x (fun m hh => hm m (List.mem_cons_of_mem _ hh))]
    simp
/-- a number that is dropped -/
def dropBy (pn : TkS → Nat × TkS) (s : TkS) : Int × TkS := (((pn s).1 : Int), (pn s).2)
theorem dropBy_rds {pn : TkS → Nat × TkS} {on : Nat → Prop} (hn : Rds pn Cd.putU on) : Rds (dropBy pn) putD (fun d => 0 ≤ d ∧ on d.toNat) where
  sound s h := by
    obtain ⟨h1, h2⟩ := hn.sound s h
    exact ⟨h1, h2⟩
  whole a x h := by
    obtain ⟨a0, h⟩ := h
    obtain ⟨n, rfl⟩ := Int.eq_ofNat_of_zero_le a0
    unfold dropBy putD
    simp only [Int.toNat_natCast] at h ⊢
    rw [hn.whole n x h]
/-- the chapter's tables, numbers; the program's -/
def rTab : TkS → Tbl × TkS := tabBy (tkNum 4611686018427387904) (tkNum 3) (tkNum 1073741824) (tkText 96)
def dTab : TkS → Tbl × TkS := tabBy dvNum (dvSmall 3) (dvSmall 1073741824) dvKey
def rDrop : TkS → Int × TkS := dropBy (tkNum 4611686018427387904)
def dDrop : TkS → Int × TkS := dropBy dvNum
/-- what stands behind the heads, behind the tables, behind all -/
def rN1 (l : Dat) : TkS := (tkNum 4611686018427387904 (l, false)).2
def rN2 (l : Dat) : TkS := (tkNum 4611686018427387904 (rN1 l)).2
def rN3 (l : Dat) : TkS := (tkNum 4611686018427387904 (rN2 l)).2
def rM (l : Dat) : Nat × TkS := tkNum 1000 (rN3 l)
def rA (l : Dat) : List Tbl × TkS := goS rTab (rM l).1 [] (rM l).2
def rM2 (l : Dat) : Nat × TkS := tkNum 1000 (rA l).2
def rD (l : Dat) : List Int × TkS := goS rDrop (rM2 l).1 [] (rM2 l).2
def rE (l : Dat) : Ed := ⟨((tkNum 4611686018427387904 (l, false)).1 : Int), ((tkNum 4611686018427387904 (rN1 l)).1 : Int), ((tkNum 4611686018427387904 (rN2 l)).1 : Int), (rA l).1, (rD l).1⟩
def dN1 (l : Dat) : TkS := (dvNum (l, false)).2
def dN2 (l : Dat) : TkS := (dvNum (dN1 l)).2
def dN3 (l : Dat) : TkS := (dvNum (dN2 l)).2
def dM (l : Dat) : Nat × TkS := dvSmall 1000 (dN3 l)
def dA (l : Dat) : List Tbl × TkS := goA dTab (dM l).1 [] (dM l).2
def dM2 (l : Dat) : Nat × TkS := dvSmall 1000 (dA l).2
def dD (l : Dat) : List Int × TkS := goA dDrop (dM2 l).1 [] (dM2 l).2
def dE (l : Dat) : Ed := ⟨((dvNum (l, false)).1 : Int), ((dvNum (dN1 l)).1 : Int), ((dvNum (dN2 l)).1 : Int), (dA l).1, (dD l).1⟩
/-- an edit whose bytes these are -/
def IsE (l : Dat) (e : Ed) : Prop := mayE e = true ∧ 0 ≤ e.next ∧ 0 ≤ e.seq ∧ 0 ≤ e.log ∧ l = loadE e
def decR10 (l : Dat) : Option Ed := if (rD l).2.2 = false ∧ (rD l).2.1 = [] ∧ mayE (rE l) = true ∧ l.length ≤ 262144 then some (rE l) else none
def decD10 (l : Dat) : Option Ed := if (dD l).2.2 = false ∧ (dD l).2.1 = [] ∧ mayE (dE l) = true then some (dE l) else none
theorem tab_ok {x : Tbl} (h : mayT x = true) : 0 ≤ x.num ∧ x.num.toNat ≤ 4611686018427387904 ∧ 0 ≤ x.lev ∧ x.lev.toNat ≤ 3 ∧ 0 ≤ x.siz ∧ x.siz.toNat ≤ 1073741824 ∧ 0 ≤ x.cnt ∧ x.cnt.toNat ≤ 1073741824 ∧ x.lo.length ≤ 96 ∧ x.hi.length ≤ 96 := by
  have t := tok h
  obtain ⟨h1, h2, h3, h4, h5, h6, h7, h8, h9, h10, h11, h12⟩ := t
  exact ⟨by omega, by omega, by omega, by omega, by omega, by omega, by omega, by omega, h10, h12⟩
def rTOk (x : Tbl) : Prop := 0 ≤ x.num ∧ x.num.toNat ≤ 4611686018427387904 ∧ 0 ≤ x.lev ∧ x.lev.toNat ≤ 3 ∧ 0 ≤ x.siz ∧ x.siz.toNat ≤ 1073741824 ∧ 0 ≤ x.cnt ∧ x.cnt.toNat ≤ 1073741824 ∧ x.lo.length ≤ 96 ∧ x.hi.length ≤ 96
def dTOk (x : Tbl) : Prop := 0 ≤ x.num ∧ x.num.toNat < 18446744073709551616 ∧ 0 ≤ x.lev ∧ x.lev.toNat ≤ 3 ∧ 0 ≤ x.siz ∧ x.siz.toNat ≤ 1073741824 ∧ 0 ≤ x.cnt ∧ x.cnt.toNat ≤ 1073741824 ∧ x.lo.length ≤ 96 ∧ x.hi.length ≤ 96
theorem rTab_rds : Rds rTab putTab rTOk := tabBy_rds (tkNum_rds 4611686018427387904 (by decide)) (tkNum_rds 3 (by decide)) (tkNum_rds 1073741824 (by decide)) (tkText_rds 96 (by decide))
theorem dTab_rds : Rds dTab putTab dTOk := tabBy_rds dvNum_rds (dvSmall_rds 3 (by decide)) (dvSmall_rds 1073741824 (by decide)) dvKey_rds
theorem rDrop_rds : Rds rDrop putD (fun d => 0 ≤ d ∧ d.toNat ≤ 4611686018427387904) := dropBy_rds (tkNum_rds 4611686018427387904 (by decide))
theorem dDrop_rds : Rds dDrop putD (fun d => 0 ≤ d ∧ d.toNat < 18446744073709551616) := dropBy_rds dvNum_rds
theorem rE_sound {l : Dat} (h1 : (rD l).2.2 = false) (h2 : (rD l).2.1 = []) : l = loadE (rE l) := by
  have N := tkNum_rds 4611686018427387904 (by decide)
  have K := tkNum_rds 1000 (by decide)
  have h1' := h1
  unfold rD at h1'
  obtain ⟨g1, M, g2, g3, g4⟩ := goS_sound rDrop_rds (rM2 l).1 [] (rM2 l).2 h1'
  obtain ⟨k1, k2⟩ := K.sound (rA l).2 g1
  have k1' : (goS rTab (rM l).1 [] (rM l).2).2.2 = false := by unfold rA at k1; exact k1
  obtain ⟨a1, A, a2, a3, a4⟩ := goS_sound rTab_rds (rM l).1 [] (rM l).2 k1'
  obtain ⟨m1, m2⟩ := K.sound (rN3 l) a1
  obtain ⟨n1, e1⟩ := N.sound (rN2 l) m1
  obtain ⟨n2, e2⟩ := N.sound (rN1 l) n1
  obtain ⟨n3, e3⟩ := N.sound (l, false) n2
  change (rD l).1 = [] ++ M at g2
  change (rA l).1 = [] ++ A at a2
  rw [List.nil_append] at g2 a2
  change (rM2 l).2.1 = M.flatMap putD ++ (rD l).2.1 at g4
  rw [h2, List.append_nil] at g4
  have em : M.length = (rM2 l).1 := g3
  have ea : A.length = (rM l).1 := a3
  unfold loadE headE rE
  simp only [Int.toNat_natCast, List.append_assoc]
  rw [g2, a2, ← g4, em]
  rw [show Cd.putU (rM2 l).1 ++ (rM2 l).2.1 = (rA l).2.1 from k2.symm]
  rw [show A.flatMap putTab ++ (rA l).2.1 = (rM l).2.1 from a4.symm, ea]
  rw [show Cd.putU (rM l).1 ++ (rM l).2.1 = (rN3 l).1 from m2.symm]
  rw [show Cd.putU (tkNum 4611686018427387904 (rN2 l)).1 ++ (rN3 l).1 = (rN2 l).1 from e1.symm]
  rw [show Cd.putU (tkNum 4611686018427387904 (rN1 l)).1 ++ (rN2 l).1 = (rN1 l).1 from e2.symm]
  exact e3
theorem dE_sound {l : Dat} (h1 : (dD l).2.2 = false) (h2 : (dD l).2.1 = []) : l = loadE (dE l) := by
  have N := dvNum_rds
  have K := dvSmall_rds 1000 (by decide)
  have h1' := h1
  unfold dD at h1'
  obtain ⟨g1, M, g2, g3, g4⟩ := goA_sound dDrop_rds (dM2 l).1 [] (dM2 l).2 h1'
  obtain ⟨k1, k2⟩ := K.sound (dA l).2 g1
  have k1' : (goA dTab (dM l).1 [] (dM l).2).2.2 = false := by unfold dA at k1; exact k1
  obtain ⟨a1, A, a2, a3, a4⟩ := goA_sound dTab_rds (dM l).1 [] (dM l).2 k1'
  obtain ⟨m1, m2⟩ := K.sound (dN3 l) a1
  obtain ⟨n1, e1⟩ := N.sound (dN2 l) m1
  obtain ⟨n2, e2⟩ := N.sound (dN1 l) n1
  obtain ⟨n3, e3⟩ := N.sound (l, false) n2
  have q1 : dD l = goA dDrop (dM2 l).1 [] (dM2 l).2 := by rw [dD]
  have q2 : dA l = goA dTab (dM l).1 [] (dM l).2 := by rw [dA]
  rw [← q1] at g2 g4
  rw [← q2] at a2 a4
  rw [List.nil_append] at g2 a2
  rw [h2, List.append_nil] at g4
  have em : M.length = (dM2 l).1 := g3
  have ea : A.length = (dM l).1 := a3
  unfold loadE headE dE
  simp only [Int.toNat_natCast, List.append_assoc]
  rw [g2, a2, ← g4, em]
  have k3 : (dA l).2.1 = Cd.putU (dM2 l).1 ++ (dM2 l).2.1 := by rw [dM2]; exact k2
  rw [← k3]
  rw [← a4, ea]
  have m3 : (dN3 l).1 = Cd.putU (dM l).1 ++ (dM l).2.1 := by rw [dM]; exact m2
  rw [← m3]
  rw [show Cd.putU (dvNum (dN2 l)).1 ++ (dN3 l).1 = (dN2 l).1 from e1.symm]
  rw [show Cd.putU (dvNum (dN1 l)).1 ++ (dN2 l).1 = (dN1 l).1 from e2.symm]
  exact e3
theorem rE_whole {e : Ed} (h : EOk e) (h1 : 0 ≤ e.next) (h2 : 0 ≤ e.seq) (h3 : 0 ≤ e.log) : (rD (loadE e)).2 = ([], false) ∧ rE (loadE e) = e := by
  have N := tkNum_rds 4611686018427387904 (by decide)
  have K := tkNum_rds 1000 (by decide)
  obtain ⟨l1, l2, l3, m1, m2, ad, dr⟩ := h
  obtain ⟨next, seq, log, A, D⟩ := e
  simp only at *
  obtain ⟨next, rfl⟩ := Int.eq_ofNat_of_zero_le h1
  obtain ⟨seq, rfl⟩ := Int.eq_ofNat_of_zero_le h2
  obtain ⟨log, rfl⟩ := Int.eq_ofNat_of_zero_le h3
  have e0 : loadE ⟨next, seq, log, A, D⟩ = Cd.putU next ++ (Cd.putU seq ++ (Cd.putU log ++ (Cd.putU A.length ++ (A.flatMap putTab ++ (Cd.putU D.length ++ (D.flatMap putD ++ [])))))) := by
    unfold loadE headE
    simp only [Int.toNat_natCast, List.append_assoc, List.append_nil]
  rw [e0]
  have q1 := N.whole next (Cd.putU seq ++ (Cd.putU log ++ (Cd.putU A.length ++ (A.flatMap putTab ++ (Cd.putU D.length ++ (D.flatMap putD ++ [])))))) (by omega)
  have q2 := N.whole seq (Cd.putU log ++ (Cd.putU A.length ++ (A.flatMap putTab ++ (Cd.putU D.length ++ (D.flatMap putD ++ []))))) (by omega)
  have q3 := N.whole log (Cd.putU A.length ++ (A.flatMap putTab ++ (Cd.putU D.length ++ (D.flatMap putD ++ [])))) (by omega)
  have q4 := K.whole A.length (A.flatMap putTab ++ (Cd.putU D.length ++ (D.flatMap putD ++ []))) (by omega)
  have q5 := goS_whole rTab_rds A [] (Cd.putU D.length ++ (D.flatMap putD ++ [])) (fun x hx => tab_ok (ad x hx))
  have q6 := K.whole D.length (D.flatMap putD ++ []) (by omega)
  have q7 := goS_whole rDrop_rds D [] [] (fun x hx => ⟨by have := dr x hx; omega, by have := dr x hx; omega⟩)
  unfold rE rD rM2 rA rM rN3 rN2 rN1
  rw [q1]
  simp only
  rw [q2]
  simp only
  rw [q3]
  simp only
  rw [q4]
  simp only
  rw [q5]
  simp only
  rw [q6]
  simp only
  rw [q7]
  simp
theorem dE_whole {e : Ed} (h : EOk e) (h1 : 0 ≤ e.next) (h2 : 0 ≤ e.seq) (h3 : 0 ≤ e.log) : (dD (loadE e)).2 = ([], false) ∧ dE (loadE e) = e := by
  have N := dvNum_rds
  have K := dvSmall_rds 1000 (by decide)
  obtain ⟨l1, l2, l3, m1, m2, ad, dr⟩ := h
  obtain ⟨next, seq, log, A, D⟩ := e
  simp only at *
  obtain ⟨next, rfl⟩ := Int.eq_ofNat_of_zero_le h1
  obtain ⟨seq, rfl⟩ := Int.eq_ofNat_of_zero_le h2
  obtain ⟨log, rfl⟩ := Int.eq_ofNat_of_zero_le h3
  have e0 : loadE ⟨next, seq, log, A, D⟩ = Cd.putU next ++ (Cd.putU seq ++ (Cd.putU log ++ (Cd.putU A.length ++ (A.flatMap putTab ++ (Cd.putU D.length ++ (D.flatMap putD ++ [])))))) := by
    unfold loadE headE
    simp only [Int.toNat_natCast, List.append_assoc, List.append_nil]
  rw [e0]
  have q1 := N.whole next (Cd.putU seq ++ (Cd.putU log ++ (Cd.putU A.length ++ (A.flatMap putTab ++ (Cd.putU D.length ++ (D.flatMap putD ++ [])))))) (by omega)
  have q2 := N.whole seq (Cd.putU log ++ (Cd.putU A.length ++ (A.flatMap putTab ++ (Cd.putU D.length ++ (D.flatMap putD ++ []))))) (by omega)
  have q3 := N.whole log (Cd.putU A.length ++ (A.flatMap putTab ++ (Cd.putU D.length ++ (D.flatMap putD ++ [])))) (by omega)
  have q4 := K.whole A.length (A.flatMap putTab ++ (Cd.putU D.length ++ (D.flatMap putD ++ []))) (by omega)
  have q5 := goA_whole dTab_rds A [] (Cd.putU D.length ++ (D.flatMap putD ++ [])) (fun x hx => by
    obtain ⟨t1, t2, t3, t4, t5, t6, t7, t8, t9, t10⟩ := tab_ok (ad x hx)
    exact ⟨t1, by omega, t3, t4, t5, t6, t7, t8, t9, t10⟩)
  have q6 := K.whole D.length (D.flatMap putD ++ []) (by omega)
  have q7 := goA_whole dDrop_rds D [] [] (fun x hx => ⟨by have := dr x hx; omega, by have := dr x hx; omega⟩)
  unfold dE dD dM2 dA dM dN3 dN2 dN1
  rw [q1]
  simp only
  rw [q2]
  simp only
  rw [q3]
  simp only
  rw [q4]
  simp only
  rw [q5]
  simp only
  rw [q6]
  simp only
  rw [q7]
  simp
theorem decR_iff {l : Dat} {e : Ed} : decR10 l = some e ↔ IsE l e := by
  constructor
  · intro h
    unfold decR10 at h
    split at h
    · rename_i hc
      obtain ⟨c1, c2, c3, c4⟩ := hc
      obtain rfl : rE l = e := by simpa using h
      exact ⟨c3, Int.natCast_nonneg _, Int.natCast_nonneg _, Int.natCast_nonneg _, rE_sound c1 c2⟩
    · cases h
  · rintro ⟨h1, h2, h3, h4, rfl⟩
    obtain ⟨g1, g2⟩ := rE_whole (eok h1) h2 h3 h4
    unfold decR10
    rw [if_pos ⟨by rw [g1], by rw [g1], by rw [g2]; exact h1, loadE_len (eok h1)⟩, g2]
theorem decD_iff {l : Dat} {e : Ed} : decD10 l = some e ↔ IsE l e := by
  constructor
  · intro h
    unfold decD10 at h
    split at h
    · rename_i hc
      obtain ⟨c1, c2, c3⟩ := hc
      obtain rfl : dE l = e := by simpa using h
      exact ⟨c3, Int.natCast_nonneg _, Int.natCast_nonneg _, Int.natCast_nonneg _, dE_sound c1 c2⟩
    · cases h
  · rintro ⟨h1, h2, h3, h4, rfl⟩
    obtain ⟨g1, g2⟩ := dE_whole (eok h1) h2 h3 h4
    unfold decD10
    rw [if_pos ⟨by rw [g1], by rw [g1], by rw [g2]; exact h1⟩, g2]
/-- both read the same -/
theorem dec_same (l : Dat) : decD10 l = decR10 l := by
  cases h : decR10 l with
  | some e => exact decD_iff.2 (decR_iff.1 h)
  | none =>
    cases h2 : decD10 l with
    | none => rfl
    | some e => rw [decR_iff.2 (decD_iff.1 h2)] at h; cases h
end Mf
end Go.Proofs.Yteckjhhbljoklaa

/-
  The program's manifest: its taker of numbers and texts.
-/
namespace Go.Proofs.Yteckjhhbljoklaa
open Go.RowKit
set_option linter.unusedSimpArgs false
set_option linter.unusedVariables false
namespace Md10
open Mf
open Fi (TkS Dat)
/-- the taker, in block t -/
def Tk (W : World) (t : Nat) (s : TkS) : Prop := Ob.Obj W t 100 [.string (Cd.bs s.1), .bool s.2]
theorem Tk.below {W W' : World} {t : Nat} {s : TkS} (h : Tk W t s) (hb : Below W.heap.size W W') : Tk W' t s := Ob.Obj.below h hb
theorem ext_drop (l : Dat) (k : Nat) : (Cd.bs l).extract k l.length = Cd.bs (l.drop k) := by
  have : ((Cd.bs l).extract k l.length).data.toList = l.drop k := by
    rw [Lib.extract_data]; exact List.take_of_length_le (by simp)
  rw [← this]

set_option maxRecDepth 100000 in
set_option maxHeartbeats 2000000 in
theorem cut_any (t : Nat) (s : TkS) (k e : Nat) (hk : k ≤ s.1.length) (hl : s.1.length ≤ 140737488351232) (w : World) (h : Tk w t s) :
    Calls Try.prog 74 #[.pointer (some ⟨t, 0, none⟩), .int .i64 (k : Int), .int .i64 (e : Int)] w fun r w' => r = .returned (.tuple #[]) ∧ Tk w' t (s.1.drop k, s.2 || decide (e ≠ 0)) ∧ Sq.Kept (fun k => k ≠ t) w w' := by
  obtain ⟨l, bad⟩ := s
  have c0 := Ob.Obj.cell h 0
  have c1 := Ob.Obj.cell h 1
  have f0 := Ob.Obj.frozen h 0
  have f1 := Ob.Obj.frozen h 1
  have hz := Ob.Obj.lt h
  simp at c0 c1 hk hl
  have hw : (Cd.bs l).size = l.length := rfl
  have HX := Lib.hid (ext_drop l k)
  have hki : (0 : Int) ≤ (k : Int) ∧ (k : Int) ≤ (l.length : Int) := by omega
  have H := Lib.hid h
  have HB := Lib.hid (fun (b : Bool) => (Ob.Obj.set h 1 (.bool b)).set 0 (.string (Cd.bs (l.drop k))))
  have HK := Lib.hid (fun (b : Bool) (u : Value) => (Sq.Kept.setCell (T := fun k => k ≠ t) w (p := ⟨t, 1, none⟩) (.bool b) (fun h => h rfl)).trans (Sq.Kept.setCell (p := ⟨t, 0, none⟩) (w.setCell ⟨t, 1, none⟩ (.bool b)) u (fun h => h rfl)))
  clear h hk
  cases bad with
  | true =>
    go_enter Try.func74, Try.ntmps74
    go_wp2_with fail
    go_end0
    rw [HX.out]
    exact ⟨rfl, HB.out true, HK.out _ _⟩
  | false =>
    by_cases he : e = 0
    · subst he
      go_enter Try.func74, Try.ntmps74
      go_wp2_with fail
      go_end0
      rw [HX.out]
      exact ⟨rfl, HB.out false, HK.out _ _⟩
    · have heb : (((e : Nat) : Int) != 0) = true := by simp; omega
      have HE := Lib.hid (show decide (e = 0) = false by simp [he])
      clear he
      go_enter Try.func74, Try.ntmps74
      go_wp2_with fail
      go_end0
      rw [HX.out, HE.out]
      exact ⟨rfl, HB.out true, HK.out _ _⟩

set_option maxRecDepth 100000 in
set_option maxHeartbeats 2000000 in
theorem number_any (t : Nat) (s : TkS) (w : World) (h : Tk w t s) (hl : s.1.length ≤ 140737488351232) :
    Calls Try.prog 55 #[.pointer (some ⟨t, 0, none⟩)] w fun e w' => e = .returned (.int .u64 ((dvNum s).1 : Int)) ∧ Tk w' t (dvNum s).2 ∧ Sq.Kept (fun k => k ≠ t) w w' := by
  have hT := fun W => takec_any (Cd.bs s.1) W (by show s.1.length ≤ maxLen; unfold maxLen; omega)
  obtain ⟨o1, o2, o3, o4⟩ := Cd.takeU_ok s.1
  have c0 := Ob.Obj.cell h 0
  simp at c0
  have hz := Ob.Obj.lt h
  unfold dvNum
  change ∀ W, Calls _ _ _ W fun e w' => e = .returned (.tuple #[.int .u64 (Cd.takeU s.1).1, .int .i64 (Cd.takeU s.1).2.1, .int .i64 (Cd.takeU s.1).2.2]) ∧ W = w' at hT
  generalize Cd.takeU s.1 = r at *
  obtain ⟨n, k, e⟩ := r
  simp only at hT o1 o2 o3 o4 ⊢
  have HT := Lib.hid hT
  have HC := Lib.hid (cut_any t s k e o3 hl w h)
  clear hT h
  go_enter Try.func55, Try.ntmps55
  go_wp2_with (first
    | (go_at_call 73; (with_reducible refine (HT.out _).mono ?_); rintro e w1 ⟨rfl, rfl⟩)
    | (go_at_call 74; (with_reducible refine HC.out.mono ?_); rintro e w1 ⟨rfl, ht, hk⟩))
  go_ret
  exact ⟨rfl, ht, hk⟩

set_option maxRecDepth 100000 in
set_option maxHeartbeats 2000000 in
theorem small_any (t : Nat) (s : TkS) (M : Int) (most : Nat) (hM : M = most) (w : World) (h : Tk w t s) (hl : s.1.length ≤ 140737488351232) (hm : most ≤ 9223372036854775807) :
    Calls Try.prog 56 #[.pointer (some ⟨t, 0, none⟩), .int .i64 M] w fun e w' => e = .returned (.int .i64 ((dvSmall most s).1 : Int)) ∧ Tk w' t (dvSmall most s).2 ∧ Sq.Kept (fun k => k ≠ t) w w' := by
  subst hM
  have HN := Lib.hid (number_any t s w h hl)
  have hb : (dvNum s).1 < 18446744073709551616 := (Cd.takeU_ok s.1).1
  unfold dvSmall
  generalize dvNum s = r at *
  obtain ⟨n, s'⟩ := r
  simp only at HN hb ⊢
  have hwm : IntKind.u64.wrap (most : Int) = (most : Int) := Cd.wrapU_nat (by omega)
  clear h
  by_cases hn : most < n
  · rw [if_pos hn]
    have hni : (most : Int) < (n : Int) := by omega
    go_enter Try.func56, Try.ntmps56
    go_wp2_with (go_at_call 55; (with_reducible refine HN.out.mono ?_); rintro e w1 ⟨rfl, ht, hk⟩; have c1 := Ob.Obj.cell ht 1; have f1 := Ob.Obj.frozen ht 1; have hz := Ob.Obj.lt ht; simp at c1)
    go_ret
    exact ⟨rfl, Ob.Obj.set ht 1 (.bool true), hk.trans (Sq.Kept.setCell _ _ (fun h => h rfl))⟩
  · rw [if_neg hn]
    have hni : ¬ (most : Int) < (n : Int) := by omega
    have hwn : IntKind.i64.wrap (n : Int) = (n : Int) := by rw [IntKind.wrap_i64]; omega
    go_enter Try.func56, Try.ntmps56
    go_wp2_with (go_at_call 55; (with_reducible refine HN.out.mono ?_); rintro e w1 ⟨rfl, ht, hk⟩)
    go_ret
    exact ⟨rfl, ht, hk⟩

theorem takeT_fits (l : Dat) : (Cd.takeT l 96).2.1 ≤ l.length ∧ (Cd.takeT l 96).1.length ≤ 96 := by
  obtain ⟨n, k, e, hu⟩ : ∃ n k e, Cd.takeU l = (n, k, e) := ⟨_, _, _, rfl⟩
  have ho := (Cd.takeU_ok l).2.2.1
  rw [hu] at ho
  simp only at ho
  by_cases he : e = 0
  · subst he
    by_cases h1 : n ≤ 96
    · by_cases h2 : n ≤ l.length - k
      · rw [Cd.takeT_text hu (by simpa using h1) h2]
        simp only [List.length_take, List.length_drop]
        omega
      · rw [Cd.takeT_more hu (by simpa using h1) (by omega)]
        simp
    · rw [Cd.takeT_most hu (by simp; omega)]
      simp
  · rw [Cd.takeT_err hu he]
    simp

set_option maxRecDepth 100000 in
set_option maxHeartbeats 2000000 in
theorem key_any (t : Nat) (s : TkS) (w : World) (h : Tk w t s) (hl : s.1.length ≤ 140737488351232) :
    Calls Try.prog 57 #[.pointer (some ⟨t, 0, none⟩)] w fun e w' => e = .returned (.string (Cd.bs (dvKey s).1)) ∧ Tk w' t (dvKey s).2 ∧ Sq.Kept (fun k => k ≠ t) w w' := by
  have hT := fun W => show Calls Try.prog 65 #[.string (Cd.bs s.1), .int .i64 96] W fun e w' => e = .returned (.tuple #[.string (Cd.bs (Cd.takeT s.1 96).1), .int .i64 (Cd.takeT s.1 96).2.1, .int .i64 (Cd.takeT s.1 96).2.2]) ∧ Below W.heap.size W w' from takeTc_any (Cd.bs s.1) 96 W hl (by omega) (by omega)
  obtain ⟨o1, o2⟩ := takeT_fits s.1
  have c0 := Ob.Obj.cell h 0
  simp at c0
  have hz := Ob.Obj.lt h
  unfold dvKey
  generalize Cd.takeT s.1 96 = r at *
  obtain ⟨x, k, e⟩ := r
  simp only at hT o1 o2 ⊢
  have HT := Lib.hid hT
  have HC := Lib.hid (fun W (h : Tk W t s) => cut_any t s k e o1 hl W h)
  have H := Lib.hid h
  clear hT h
  go_enter Try.func57, Try.ntmps57
  go_wp2_with (first
    | (go_at_call 65; (with_reducible refine (HT.out _).mono ?_); rintro e w1 ⟨rfl, hb1⟩; have HK1 := Lib.hid (Sq.Kept.of_below (T := fun k => k ≠ t) hb1); have H1 := Lib.hid (H.out.below hb1))
    | (go_at_call 74; (with_reducible refine (HC.out _ H1.out).mono ?_); rintro e w2 ⟨rfl, ht, hk⟩))
  go_ret
  exact ⟨rfl, ht, HK1.out.trans hk⟩
end Md10
end Go.Proofs.Yteckjhhbljoklaa

/-
  The document's reader (tapestryref04) of numbers and texts, one behind the other.
-/
namespace Go.Proofs.Yteckjhhbljoklaa
open Go.RowKit
set_option linter.unusedSimpArgs false
set_option linter.unusedVariables false
namespace Rr
/-- the reader, in block t -/
def Tk (W : World) (t : Nat) (s : Fi.TkS) : Prop := Ob.Obj W t 63 [.string (Cd.bs s.1), .bool s.2]
theorem Tk.below {W W' : World} {t : Nat} {s : Fi.TkS} (h : Tk W t s) (hb : Below W.heap.size W W') : Tk W' t s := Ob.Obj.below h hb
theorem extract_drop (l : Fi.Dat) (k : Nat) : (Cd.bs l).extract k l.length = Cd.bs (l.drop k) := by
  have : ((Cd.bs l).extract k l.length).data.toList = l.drop k := by
    rw [Lib.extract_data]; exact List.take_of_length_le (by simp)
  rw [← this]

set_option maxRecDepth 100000 in
set_option maxHeartbeats 2000000 in
theorem uint_any (t : Nat) (s : Fi.TkS) (M : Int) (most : Nat) (hM : M = most) (w : World) (h : Tk w t s) (hl : s.1.length ≤ 140737488351232) (hm : most < 18446744073709551616) :
    Calls Try.prog 30 #[.pointer (some ⟨t, 0, none⟩), .int .u64 M] w fun e w' => e = .returned (.int .u64 ((Fi.tkNum most s).1 : Int)) ∧ Tk w' t (Fi.tkNum most s).2 ∧ Sq.Kept (fun k => k ≠ t) w w' := by
  subst hM
  obtain ⟨l, bad⟩ := s
  have hT := fun W => taker_any (Cd.bs l) W (by show l.length ≤ maxLen; unfold maxLen; simp at hl; omega)
  obtain ⟨o1, o2, o3, o4⟩ := Cd.takeU_ok l
  have c0 := Ob.Obj.cell h 0
  have c1 := Ob.Obj.cell h 1
  have f0 := Ob.Obj.frozen h 0
  have f1 := Ob.Obj.frozen h 1
  simp at c0 c1
  unfold Fi.tkNum
  simp only
  change ∀ W, Calls _ _ _ W fun e w' => e = .returned (.tuple #[.int .u64 (Cd.takeU l).1, .int .i64 (Cd.takeU l).2.1, .int .i64 (Cd.takeU l).2.2]) ∧ W = w' at hT
  obtain ⟨n, k, e, ht⟩ : ∃ n k e, Cd.takeU l = (n, k, e) := ⟨_, _, _, rfl⟩
  rw [ht] at hT o1 o2 o3 o4 ⊢
  have HT := Lib.hid hT
  have H := Lib.hid h
  simp only at o1 o2 o3 o4
  clear hT ht h
  cases bad with
  | true =>
    have hw : (Cd.bs l).size = l.length := rfl
    rw [if_pos (.inl rfl)]
    go_enter Try.func30, Try.ntmps30
    go_wp2_with (go_at_call 58; refine (HT.out _).mono ?_; rintro e w1 ⟨rfl, rfl⟩)
    go_ret
    exact ⟨rfl, Ob.Obj.set H.out 1 (.bool true), Sq.Kept.setCell _ _ (fun h => h rfl)⟩
  | false =>
    by_cases he : e = 0
    · subst he
      by_cases hn : most < n
      · rw [if_pos (.inr (.inr hn))]
        have hni : (most : Int) < (n : Int) := by omega
        go_enter Try.func30, Try.ntmps30
        go_wp2_with (go_at_call 58; refine (HT.out _).mono ?_; rintro e w1 ⟨rfl, rfl⟩)
        go_ret
        exact ⟨rfl, Ob.Obj.set H.out 1 (.bool true), Sq.Kept.setCell _ _ (fun h => h rfl)⟩
      · rw [if_neg (by simp; omega)]
        have hni : ¬ (most : Int) < (n : Int) := by omega
        have hk : (k : Int) ≤ (l.length : Int) := by omega
        have hk0 : (0 : Int) ≤ (k : Int) := by omega
        have hsz : (Cd.bs l).size = l.length := rfl
        simp only at hl
        go_enter Try.func30, Try.ntmps30
        go_wp2_with (go_at_call 58; refine (HT.out _).mono ?_; rintro e w1 ⟨rfl, rfl⟩)
        go_ret
        exact ⟨rfl, by rw [extract_drop]; exact Ob.Obj.set H.out 0 (.string (Cd.bs (l.drop k))), Sq.Kept.setCell _ _ (fun h => h rfl)⟩
    · rw [if_pos (.inr (.inl he))]
      have heb : (((e : Nat) : Int) != 0) = true := by simp; omega
      have heb2 : (((e : Nat) : Int) == 0) = false := by simp; omega
      clear he
      go_enter Try.func30, Try.ntmps30
      go_wp2_with (go_at_call 58; refine (HT.out _).mono ?_; rintro e w1 ⟨rfl, rfl⟩)
      go_ret
      exact ⟨rfl, Ob.Obj.set H.out 1 (.bool true), Sq.Kept.setCell _ _ (fun h => h rfl)⟩

set_option maxRecDepth 100000 in
set_option maxHeartbeats 2000000 in
theorem text_any (t : Nat) (s : Fi.TkS) (M : Int) (most : Nat) (hM : M = most) (w : World) (h : Tk w t s) (hl : s.1.length ≤ 140737488351232) (hm : most ≤ 1048576) :
    Calls Try.prog 31 #[.pointer (some ⟨t, 0, none⟩), .int .i64 M] w fun e w' => e = .returned (.string (Cd.bs (Fi.tkText most s).1)) ∧ Tk w' t (Fi.tkText most s).2 ∧ Sq.Kept (fun k => k ≠ t) w w' := by
  subst hM
  obtain ⟨l, bad⟩ := s
  have hT := fun W => takeTr_any (Cd.bs l) (most : Int) W hl (by omega) (by omega)
  have hlen := Fi.takeT_len l most
  have hkl := (Fr.takeT_len l most).1
  unfold Fi.tkText
  simp only
  change ∀ W, Calls _ _ _ W fun e w' => e = .returned (.tuple #[.string (Cd.bs (Cd.takeT l most).1), .int .i64 (Cd.takeT l most).2.1, .int .i64 (Cd.takeT l most).2.2]) ∧ Below W.heap.size W w' at hT
  obtain ⟨n, k, e, ht⟩ : ∃ n k e, Cd.takeT l most = (n, k, e) := ⟨_, _, _, rfl⟩
  rw [ht] at hT hlen hkl ⊢
  have HT := Lib.hid hT
  have H := Lib.hid h
  simp only at hlen hkl
  have c0 := Ob.Obj.cell h 0
  simp at c0
  clear hT ht h
  cases bad with
  | true =>
    rw [if_pos (.inl rfl)]
    go_enter Try.func31, Try.ntmps31
    go_wp2_with (go_at_call 59; refine (HT.out _).mono ?_; rintro e w1 ⟨rfl, hb1⟩; have H1 := Lib.hid (H.out.below hb1); have k0 := Ob.Obj.cell H1.out 0; have k1 := Ob.Obj.cell H1.out 1; have f1 := Ob.Obj.frozen H1.out 1; simp at k0 k1)
    go_ret
    exact ⟨rfl, Ob.Obj.set H1.out 1 (.bool true), (Sq.Kept.of_below hb1 |>.less (fun _ _ _ => trivial)).trans (Sq.Kept.setCell _ _ (fun h => h rfl))⟩
  | false =>
    by_cases he : e = 0
    · subst he
      rw [if_neg (by simp)]
      have hk : (k : Int) ≤ (l.length : Int) := by omega
      have hk0 : (0 : Int) ≤ (k : Int) := by omega
      have hsz : (Cd.bs l).size = l.length := rfl
      simp only at hl
      go_enter Try.func31, Try.ntmps31
      go_wp2_with (go_at_call 59; refine (HT.out _).mono ?_; rintro e w1 ⟨rfl, hb1⟩; have H1 := Lib.hid (H.out.below hb1); have k0 := Ob.Obj.cell H1.out 0; have k1 := Ob.Obj.cell H1.out 1; have f0 := Ob.Obj.frozen H1.out 0; simp at k0 k1)
      go_ret
      exact ⟨rfl, by rw [extract_drop]; exact Ob.Obj.set H1.out 0 (.string (Cd.bs (l.drop k))), (Sq.Kept.of_below hb1 |>.less (fun _ _ _ => trivial)).trans (Sq.Kept.setCell _ _ (fun h => h rfl))⟩
    · rw [if_pos (.inr he)]
      have heb : (((e : Nat) : Int) != 0) = true := by simp; omega
      have heb2 : (((e : Nat) : Int) == 0) = false := by simp; omega
      clear he
      go_enter Try.func31, Try.ntmps31
      go_wp2_with (go_at_call 59; refine (HT.out _).mono ?_; rintro e w1 ⟨rfl, hb1⟩; have H1 := Lib.hid (H.out.below hb1); have k0 := Ob.Obj.cell H1.out 0; have k1 := Ob.Obj.cell H1.out 1; have f1 := Ob.Obj.frozen H1.out 1; simp at k0 k1)
      go_ret
      exact ⟨rfl, Ob.Obj.set H1.out 1 (.bool true), (Sq.Kept.of_below hb1 |>.less (fun _ _ _ => trivial)).trans (Sq.Kept.setCell _ _ (fun h => h rfl))⟩
end Rr
end Go.Proofs.Yteckjhhbljoklaa

/-
  The document's answers of chapter 10: Decode.
-/
namespace Go.Proofs.Yteckjhhbljoklaa
open Go.RowKit
set_option linter.unusedSimpArgs false
set_option linter.unusedVariables false
theorem info_Table10 : (Try.prog.info? 44).map (fun i => (i.zero, i.size, i.bytes)) = some (some (.agg #[.int .u64 0, .int .i64 0, .int .i64 0, .int .i64 0, .string ⟨#[]⟩, .string ⟨#[]⟩]), 6, 64) := by kernel_rfl
theorem info_u6410 : (Try.prog.info? 22).map (fun i => (i.zero, i.size, i.bytes)) = some (some (.int .u64 0), 1, 8) := by kernel_rfl
namespace Mf
open Fi (TkS tkNum tkText Dat)
def zeroE : Value := .agg #[.int .u64 0, .int .u64 0, .int .u64 0, .slice none 0 0, .slice none 0 0]
/-- what Decode leaves -/
def DecOut10 (d : Option Ed) (w : World) (r : Ending) (w' : World) : Prop :=
  match d with
  | some e => ∃ av dv, r = .returned (.tuple #[edV e av dv, .int .i64 0]) ∧ EdIn w'.heap.size w' e av dv ∧ Below w.heap.size w w'
  | none => r = .returned (.tuple #[zeroE, .int .i64 3]) ∧ Below w.heap.size w w'
theorem nC_snoc (L : List Int) (x : Int) : nC (L ++ [x]) = nC L ++ [.int .u64 x] := by simp [nC]
theorem ns_of_own {W : World} {B : Nat} {te : TypeId} {v : Value} {L : List Int} (h : W.ownsRow B te 1 v L.length (nC L)) : Ns W.heap.size W v L := by
  obtain ⟨a, cap, b, rfl, _, _, h3⟩ := Gn.row_at h
  refine ⟨a, cap, b, 0, rfl, fun h => ⟨(h3 h).1, (h3 h).2.2.1⟩, fun j hj => ?_⟩
  obtain ⟨_, _, _, hc⟩ := h3 (by omega)
  rw [Nat.zero_add, hc j (by omega)]
  simp [nC, hj]
/-- amid Decode: what is read lies at B or above -/
structure ES (B bb : Nat) (n q g : Int) (A : List Tbl) (D : List Int) (av dv : Value) (W : World) : Prop where
  box : Ob.Obj W bb 26 [.int .u64 n, .int .u64 q, .int .u64 g, av, dv]
  rowA : W.ownsRow B 44 6 av A.length (tcs A)
  rowD : W.ownsRow B 22 1 dv D.length (nC D)
variable {B bb : Nat} {n q g : Int} {A : List Tbl} {D : List Int} {av dv : Value} {W W2 : World}
theorem ES.below (h : ES B bb n q g A D av dv W) (hb : Below W.heap.size W W2) : ES B bb n q g A D av dv W2 :=
  ⟨h.box.below hb, own_below h.rowA hb, own_below h.rowD hb⟩
theorem ES.kept (h : ES B bb n q g A D av dv W) {T : Sq.Blocks} (hk : Sq.Kept T W W2) (h1 : T bb) (h2 : ∀ k, av.ownBlock = some k → T k) (h3 : ∀ k, dv.ownBlock = some k → T k) : ES B bb n q g A D av dv W2 :=
  ⟨h.box.kept hk h1, Sq.row_kept h.rowA hk h2, Sq.row_kept h.rowD hk h3⟩
/-- all but one block, of another kind, is kept -/
theorem ES.call (h : ES B bb n q g A D av dv W) {t : Nat} {ty : TypeId} {cs : List Value} (ho : Ob.Obj W t ty cs) (hk : Sq.Kept (fun k => k ≠ t) W W2) (hb : bb ≠ t) (h1 : ty ≠ 44) (h2 : ty ≠ 22) : ES B bb n q g A D av dv W2 :=
  h.kept hk hb (fun k hk2 e => by subst e; exact ho.not_row h1 h.rowA hk2) (fun k hk2 e => by subst e; exact ho.not_row h2 h.rowD hk2)
theorem ES.addT (h : ES B bb n q g A D av dv W) (x : Tbl) {v2 : Value} (hown : W2.ownsRow B 44 6 v2 (A.length + 1) (tcs A ++ tC x)) (hg : W.grownBy W2 av.ownBlock) : ES B bb n q g (A ++ [x]) D v2 dv (W2.setCell ⟨bb, 3, none⟩ v2) := by
  have hob : Ob.Obj W2 bb 26 [.int .u64 n, .int .u64 q, .int .u64 g, av, dv] := h.box.grown hg (h.box.not_row (by decide) h.rowA)
  have hD : W2.ownsRow B 22 1 dv D.length (nC D) := Sq.row_kept h.rowD (Sq.Kept.grown (T := fun k => dv.ownBlock = some k) hg (fun r hr e => Ob.rows_apart h.rowA h.rowD (by decide) r hr e)) (fun k hk => hk)
  refine ⟨?_, ?_, Ob.row_other hD (p := ⟨bb, 3, none⟩) (hob.not_row (by decide) hD) _⟩
  · have := hob.set 3 v2
    simpa using this
  · have e : tcs (A ++ [x]) = tcs A ++ tC x := by simp [tcs]
    rw [e, List.length_append, List.length_singleton]
    exact Ob.row_other hown (p := ⟨bb, 3, none⟩) (hob.not_row (by decide) hown) _
theorem ES.addD (h : ES B bb n q g A D av dv W) (x : Int) {v2 : Value} (hown : W2.ownsRow B 22 1 v2 (D.length + 1) (nC D ++ [.int .u64 x])) (hg : W.grownBy W2 dv.ownBlock) : ES B bb n q g A (D ++ [x]) av v2 (W2.setCell ⟨bb, 4, none⟩ v2) := by
  have hob : Ob.Obj W2 bb 26 [.int .u64 n, .int .u64 q, .int .u64 g, av, dv] := h.box.grown hg (h.box.not_row (by decide) h.rowD)
  have hA : W2.ownsRow B 44 6 av A.length (tcs A) := Sq.row_kept h.rowA (Sq.Kept.grown (T := fun k => av.ownBlock = some k) hg (fun r hr e => Ob.rows_apart h.rowD h.rowA (by decide) r hr e)) (fun k hk => hk)
  refine ⟨?_, Ob.row_other hA (p := ⟨bb, 4, none⟩) (hob.not_row (by decide) hA) _, ?_⟩
  · have := hob.set 4 v2
    simpa using this
  · rw [nC_snoc, List.length_append, List.length_singleton]
    exact Ob.row_other hown (p := ⟨bb, 4, none⟩) (hob.not_row (by decide) hown) _
theorem ES.ed (h : ES B bb n q g A D av dv W) (hA : ∀ x ∈ A, TblIn x) (hD : ∀ d ∈ D, 0 ≤ d ∧ d ≤ 18446744073709551615) (h1 : 0 ≤ n ∧ n ≤ 18446744073709551615) (h2 : 0 ≤ q ∧ q ≤ 18446744073709551615) (h3 : 0 ≤ g ∧ g ≤ 18446744073709551615) (h4 : A.length ≤ 1048576) (h5 : D.length ≤ 1048576) : EdIn W.heap.size W ⟨n, q, g, A, D⟩ av dv :=
  ⟨tbs_of_own h.rowA, ns_of_own h.rowD, hA, hD, h1.1, h1.2, h2.1, h2.2, h3.1, h3.2, h4, h5⟩
theorem rTab_in (s : TkS) : TblIn (rTab s).1 ∧ (rTab s).2.1.length ≤ s.1.length := by
  unfold rTab tabBy
  have a1 := Fi.tkNum_le 4611686018427387904 s
  have b1 := Fi.tkNum_len 4611686018427387904 s
  generalize tkNum 4611686018427387904 s = r1 at *
  have a2 := Fi.tkNum_le 3 r1.2
  have b2 := Fi.tkNum_len 3 r1.2
  generalize tkNum 3 r1.2 = r2 at *
  have a3 := Fi.tkNum_le 1073741824 r2.2
  have b3 := Fi.tkNum_len 1073741824 r2.2
  generalize tkNum 1073741824 r2.2 = r3 at *
  have a4 := Fi.tkNum_le 1073741824 r3.2
  have b4 := Fi.tkNum_len 1073741824 r3.2
  generalize tkNum 1073741824 r3.2 = r4 at *
  have a5 := Fi.tkText_le 96 r4.2
  have b5 := Fi.tkText_len 96 r4.2
  generalize tkText 96 r4.2 = r5 at *
  have a6 := Fi.tkText_le 96 r5.2
  have b6 := Fi.tkText_len 96 r5.2
  generalize tkText 96 r5.2 = r6 at *
  exact ⟨⟨by simp only; omega, by simp only; omega, by simp only; omega, by simp only; omega, by simp only; omega, by simp only; omega, by simp only; omega, by simp only; omega, by simp only; omega, by simp only; omega⟩, by simp only; omega⟩
theorem tin_snoc {L : List Tbl} {p : Tbl} (h : ∀ q ∈ L, TblIn q) (hp : TblIn p) : ∀ q ∈ L ++ [p], TblIn q := fun q hq => by
  rcases List.mem_append.1 hq with hq | hq
  · exact h q hq
  · simp only [List.mem_singleton] at hq; subst hq; exact hp
theorem din_snoc {L : List Int} {p : Int} (h : ∀ d ∈ L, 0 ≤ d ∧ d ≤ 18446744073709551615) (hp : 0 ≤ p ∧ p ≤ 18446744073709551615) : ∀ d ∈ L ++ [p], 0 ≤ d ∧ d ≤ 18446744073709551615 := fun q hq => by
  rcases List.mem_append.1 hq with hq | hq
  · exact h q hq
  · simp only [List.mem_singleton] at hq; subst hq; exact hp
end Mf
end Go.Proofs.Yteckjhhbljoklaa

/-
  The program's manifest: takeEdit.
-/
namespace Go.Proofs.Yteckjhhbljoklaa
open Go.RowKit
set_option linter.unusedSimpArgs false
set_option linter.unusedVariables false
namespace Md10
open Mf
open Fi (TkS Dat)
/-- what takeEdit leaves -/
def TakeOut10 (l : List UInt8) (w : World) (r : Ending) (w' : World) : Prop :=
  ∃ av dv, r = .returned (.tuple #[edV (dE l) av dv, .bool (decide ((dD l).2.2 = false ∧ (dD l).2.1 = []))]) ∧ EdIn w'.heap.size w' (dE l) av dv ∧ (w'.ownsRow w.heap.size 44 6 av (dE l).add.length (tcs (dE l).add) ∧ w'.ownsRow w.heap.size 22 1 dv (dE l).drop.length (nC (dE l).drop)) ∧ Below w.heap.size w w'
theorem take_out {l : List UInt8} {w W : World} {av dv : Value} {b : Bool} {e : Ed} {r : Ending} (h1 : dE l = e) (h2 : decide ((dD l).2.2 = false ∧ (dD l).2.1 = []) = b) (hr : r = .returned (.tuple #[edV e av dv, .bool b])) (hA : W.ownsRow w.heap.size 44 6 av e.add.length (tcs e.add)) (hD : W.ownsRow w.heap.size 22 1 dv e.drop.length (nC e.drop)) (hE : EdIn W.heap.size W e av dv) (hb : Below w.heap.size w W) : TakeOut10 l w r W.drew := by
  subst h1
  exact ⟨av, dv, by rw [h2]; exact hr, ⟨hE.add, hE.drop, hE.each, hE.ds, hE.n0, hE.n1, hE.s0, hE.s1, hE.l0, hE.l1, hE.many, hE.few⟩, ⟨hA, hD⟩, hb.drew⟩
theorem dvNum_in (s : TkS) : (dvNum s).1 < 18446744073709551616 ∧ (dvNum s).2.1.length ≤ s.1.length := by
  have h1 := (Cd.takeU_ok s.1).1
  unfold dvNum
  simp only [List.length_drop]
  omega
theorem dvSmall_in (most : Nat) (s : TkS) : (dvSmall most s).1 ≤ most ∧ (dvSmall most s).2.1.length ≤ s.1.length := by
  have h := dvNum_in s
  unfold dvSmall
  split
  · exact ⟨Nat.zero_le _, h.2⟩
  · exact ⟨by omega, h.2⟩
theorem dvKey_in (s : TkS) : (dvKey s).1.length ≤ 96 ∧ (dvKey s).2.1.length ≤ s.1.length := by
  have h := takeT_fits s.1
  unfold dvKey
  simp only [List.length_drop]
  omega

/-- amid Decode: the reader, the result's box, all that was ahead -/
structure DSd (w : World) (bb : Nat) (n q g : Int) (A : List Tbl) (D : List Int) (av dv : Value) (s : TkS) (W : World) : Prop where
  es : ES w.heap.size bb n q g A D av dv W
  tk : Tk W (w.heap.size + 1) s
  res : Ob.Obj W w.heap.size 26 [.int .u64 0, .int .u64 0, .int .u64 0, .slice none 0 0, .slice none 0 0]
  be : Below w.heap.size w W
  lt : w.heap.size + 1 < bb
variable {w : World} {bb : Nat} {n q g : Int} {A : List Tbl} {D : List Int} {av dv : Value} {s s' : TkS} {W W2 : World}
theorem DSd.call (h : DSd w bb n q g A D av dv s W) (hk : Sq.Kept (fun k => k ≠ w.heap.size + 1) W W2) (ht : Tk W2 (w.heap.size + 1) s') : DSd w bb n q g A D av dv s' W2 :=
  ⟨h.es.call h.tk hk (by have := h.lt; omega) (by decide) (by decide), ht, h.res.kept hk (by omega), h.be.trans (hk.below (B := w.heap.size) (fun k hk => by omega) h.be.size), h.lt⟩
theorem DSd.below (h : DSd w bb n q g A D av dv s W) (hb : Below W.heap.size W W2) : DSd w bb n q g A D av dv s W2 :=
  ⟨h.es.below hb, h.tk.below hb, h.res.below hb, h.be.trans (hb.mono h.be.size), h.lt⟩
theorem DSd.addT (h : DSd w bb n q g A D av dv s W) (x : Tbl) {v2 : Value} (hown : W2.ownsRow w.heap.size 44 6 v2 (A.length + 1) (tcs A ++ tC x)) (hg : W.grownBy W2 av.ownBlock) : DSd w bb n q g (A ++ [x]) D v2 dv s (W2.setCell ⟨bb, 3, none⟩ v2) :=
  have hlt := h.lt
  ⟨h.es.addT x hown hg, Ob.Obj.other (Ob.Obj.grown h.tk hg (Ob.Obj.not_row h.tk (by decide) h.es.rowA)) (p := ⟨bb, 3, none⟩) (by show w.heap.size + 1 ≠ bb; omega) _, Ob.Obj.other (h.res.grown hg (h.res.not_row (by decide) h.es.rowA)) (p := ⟨bb, 3, none⟩) (by show w.heap.size ≠ bb; omega) _, (h.be.grown hg h.be.size (fun k hk => (Ob.row_lt h.es.rowA hk).1)).setCell (p := ⟨bb, 3, none⟩) (by show w.heap.size ≤ bb; omega) _, hlt⟩
theorem DSd.addD (h : DSd w bb n q g A D av dv s W) (x : Int) {v2 : Value} (hown : W2.ownsRow w.heap.size 22 1 v2 (D.length + 1) (nC D ++ [.int .u64 x])) (hg : W.grownBy W2 dv.ownBlock) : DSd w bb n q g A (D ++ [x]) av v2 s (W2.setCell ⟨bb, 4, none⟩ v2) :=
  have hlt := h.lt
  ⟨h.es.addD x hown hg, Ob.Obj.other (Ob.Obj.grown h.tk hg (Ob.Obj.not_row h.tk (by decide) h.es.rowD)) (p := ⟨bb, 4, none⟩) (by show w.heap.size + 1 ≠ bb; omega) _, Ob.Obj.other (h.res.grown hg (h.res.not_row (by decide) h.es.rowD)) (p := ⟨bb, 4, none⟩) (by show w.heap.size ≠ bb; omega) _, (h.be.grown hg h.be.size (fun k hk => (Ob.row_lt h.es.rowD hk).1)).setCell (p := ⟨bb, 4, none⟩) (by show w.heap.size ≤ bb; omega) _, hlt⟩
structure DCd (w : World) (bb : Nat) (n q g : Int) (av dv : Value) (s : TkS) (W : World) : Prop where
  t0 : W.cell? ⟨w.heap.size + 1, 0, none⟩ = some (.string (Cd.bs s.1))
  t1 : W.cell? ⟨w.heap.size + 1, 1, none⟩ = some (.bool s.2)
  b0 : W.cell? ⟨bb, 0, none⟩ = some (.int .u64 n)
  b1 : W.cell? ⟨bb, 1, none⟩ = some (.int .u64 q)
  b2 : W.cell? ⟨bb, 2, none⟩ = some (.int .u64 g)
  b3 : W.cell? ⟨bb, 3, none⟩ = some av
  b4 : W.cell? ⟨bb, 4, none⟩ = some dv
  f3 : W.frozen? ⟨bb, 3, none⟩ = false
  f4 : W.frozen? ⟨bb, 4, none⟩ = false
  z1 : w.heap.size + 1 < W.heap.size
  z2 : bb < W.heap.size
theorem DSd.cells (h : DSd w bb n q g A D av dv s W) : DCd w bb n q g av dv s W :=
  ⟨Ob.Obj.cell h.tk 0, Ob.Obj.cell h.tk 1, h.es.box.cell 0, h.es.box.cell 1, h.es.box.cell 2, h.es.box.cell 3, h.es.box.cell 4, h.es.box.frozen 3, h.es.box.frozen 4, Ob.Obj.lt h.tk, h.es.box.lt⟩
structure RCd (w W : World) : Prop where
  r0 : W.cell? ⟨w.heap.size, 0, none⟩ = some (.int .u64 0)
  r1 : W.cell? ⟨w.heap.size, 1, none⟩ = some (.int .u64 0)
  r2 : W.cell? ⟨w.heap.size, 2, none⟩ = some (.int .u64 0)
  r3 : W.cell? ⟨w.heap.size, 3, none⟩ = some (.slice none 0 0)
  r4 : W.cell? ⟨w.heap.size, 4, none⟩ = some (.slice none 0 0)
  g0 : W.frozen? ⟨w.heap.size, 0, none⟩ = false
  g1 : W.frozen? ⟨w.heap.size, 1, none⟩ = false
  g2 : W.frozen? ⟨w.heap.size, 2, none⟩ = false
  g3 : W.frozen? ⟨w.heap.size, 3, none⟩ = false
  g4 : W.frozen? ⟨w.heap.size, 4, none⟩ = false
theorem DSd.rcells (h : DSd w bb n q g A D av dv s W) : RCd w W :=
  ⟨h.res.cell 0, h.res.cell 1, h.res.cell 2, h.res.cell 3, h.res.cell 4, h.res.frozen 0, h.res.frozen 1, h.res.frozen 2, h.res.frozen 3, h.res.frozen 4⟩

set_option maxRecDepth 100000 in
set_option maxHeartbeats 8000000 in
theorem takeEdit_any (l : List UInt8) (w : World) (hl : l.length ≤ 140737488351232) :
    Calls Try.prog 29 #[.string (Cd.bs l)] w (TakeOut10 l w) := by
  obtain ⟨i0, hi, hz0, hz1, hz2⟩ := info_parts info_Table10
  obtain ⟨j0, ji, jz0, jz1, jz2⟩ := info_parts info_u6410
  obtain ⟨m1, l1⟩ := dvNum_in (l, false)
  obtain ⟨m2, l2⟩ := dvNum_in (dN1 l)
  obtain ⟨m3, l3⟩ := dvNum_in (dN2 l)
  obtain ⟨m4, l4⟩ := dvSmall_in 1000 (dN3 l)
  change (dN1 l).1.length ≤ l.length at l1
  change (dN2 l).1.length ≤ _ at l2
  change (dN3 l).1.length ≤ _ at l3
  change (dM l).2.1.length ≤ _ at l4
  change (dM l).1 ≤ 1000 at m4
  have hN : ∃ n q g : Nat, (dvNum (l, false)).1 = n ∧ (dvNum (dN1 l)).1 = q ∧ (dvNum (dN2 l)).1 = g := ⟨_, _, _, rfl, rfl, rfl⟩
  have hEd : dE l = ⟨((dvNum (l, false)).1 : Int), ((dvNum (dN1 l)).1 : Int), ((dvNum (dN2 l)).1 : Int), (dA l).1, (dD l).1⟩ := by rw [dE]
  have HU1 := Lib.hid (fun W (h : Tk W (w.heap.size + 1) (l, false)) => show Calls Try.prog 55 #[.pointer (some ⟨w.heap.size + 1, 0, none⟩)] W fun e w' => e = .returned (.int .u64 ((dvNum (l, false)).1 : Int)) ∧ Tk w' (w.heap.size + 1) (dN1 l) ∧ Sq.Kept (fun k => k ≠ w.heap.size + 1) W w' from number_any _ (l, false) W h hl)
  have HU2 := Lib.hid (fun W (h : Tk W (w.heap.size + 1) (dN1 l)) => show Calls Try.prog 55 #[.pointer (some ⟨w.heap.size + 1, 0, none⟩)] W fun e w' => e = .returned (.int .u64 ((dvNum (dN1 l)).1 : Int)) ∧ Tk w' (w.heap.size + 1) (dN2 l) ∧ Sq.Kept (fun k => k ≠ w.heap.size + 1) W w' from number_any _ (dN1 l) W h (by omega))
  have HU3 := Lib.hid (fun W (h : Tk W (w.heap.size + 1) (dN2 l)) => show Calls Try.prog 55 #[.pointer (some ⟨w.heap.size + 1, 0, none⟩)] W fun e w' => e = .returned (.int .u64 ((dvNum (dN2 l)).1 : Int)) ∧ Tk w' (w.heap.size + 1) (dN3 l) ∧ Sq.Kept (fun k => k ≠ w.heap.size + 1) W w' from number_any _ (dN2 l) W h (by omega))
  have HU4 := Lib.hid (fun W (h : Tk W (w.heap.size + 1) (dN3 l)) => show Calls Try.prog 56 #[.pointer (some ⟨w.heap.size + 1, 0, none⟩), .int .i64 1000] W fun e w' => e = .returned (.int .i64 ((dM l).1 : Int)) ∧ Tk w' (w.heap.size + 1) (dM l).2 ∧ Sq.Kept (fun k => k ≠ w.heap.size + 1) W w' from small_any _ (dN3 l) 1000 1000 rfl W h (by omega) (by decide))
  obtain ⟨n, q, g, hn, hq, hg⟩ := hN
  rw [hn] at HU1 m1 hEd
  rw [hq] at HU2 m2 hEd
  rw [hg] at HU3 m3 hEd
  clear hn hq hg
  have hA0 : dA l = goA dTab (dM l).1 [] (dM l).2 := by rw [dA]
  have hD0 : dD l = goA dDrop (dM2 l).1 [] (dM2 l).2 := by rw [dD]
  have hM2 : dM2 l = dvSmall 1000 (dA l).2 := by rw [dM2]
  have oR := Ob.Obj.new w 26 [.int .u64 0, .int .u64 0, .int .u64 0, .slice none 0 0, .slice none 0 0]
  have hW : Below w.heap.size w ((w.alloc (.cells #[.int .u64 0, .int .u64 0, .int .u64 0, .slice none 0 0, .slice none 0 0] 26)).alloc (.cells #[.string (Cd.bs l), .bool false] 100)) := ((Below.refl _ _).alloc (Nat.le_refl _) _).alloc (by simp) _
  have HT0 := Lib.hid (show Tk ((w.alloc (.cells #[.int .u64 0, .int .u64 0, .int .u64 0, .slice none 0 0, .slice none 0 0] 26)).alloc (.cells #[.string (Cd.bs l), .bool false] 100)) (w.heap.size + 1) (l, false) by simpa [Tk] using Ob.Obj.new (w.alloc (.cells #[.int .u64 0, .int .u64 0, .int .u64 0, .slice none 0 0, .slice none 0 0] 26)) 100 [.string (Cd.bs l), .bool false])
  have HR0 := Lib.hid (oR.alloc (.cells #[.string (Cd.bs l), .bool false] 100))
  have HW := Lib.hid hW
  clear oR hW
  generalize hK : (dM l).1 = K at *
  generalize hS : (dM l).2 = sM at *
  go_enter Try.func29, Try.ntmps29
  go_wp2_with (first
    | (go_at_call 55; (with_reducible refine (HU1.out _ HT0.out).mono ?_); rintro e w1 ⟨rfl, hT1, hk1⟩; have HT1 := Lib.hid hT1; have HK1 := Lib.hid hk1)
    | (go_at_call 55; (with_reducible refine (HU2.out _ HT1.out).mono ?_); rintro e w2 ⟨rfl, hT2, hk2⟩; have HT2 := Lib.hid hT2; have HK2 := Lib.hid (HK1.out.trans hk2))
    | (go_at_call 55; (with_reducible refine (HU3.out _ HT2.out).mono ?_); rintro e w3 ⟨rfl, hT3, hk3⟩; have hK3 := HK2.out.trans hk3; have hz3 := hK3.size; simp at hz3; have hS3 : DSd w w3.heap.size n q g [] [] (.slice none 0 0) (.slice none 0 0) (dN3 l) (w3.alloc (.cells #[.int .u64 n, .int .u64 q, .int .u64 g, .slice none 0 0, .slice none 0 0] 26)) := ⟨⟨Ob.Obj.new w3 _ [.int .u64 n, .int .u64 q, .int .u64 g, .slice none 0 0, .slice none 0 0], World.ownsRow_nil _ _ _ _, World.ownsRow_nil _ _ _ _⟩, hT3.below ((Below.refl _ _).alloc (Nat.le_refl _) _), (HR0.out.kept hK3 (by omega)).alloc _, (HW.out.trans (hK3.below (B := w.heap.size) (fun k hk => by omega) HW.out.size)).alloc (by omega) _, by omega⟩; have HS3 := Lib.hid hS3)
    | (go_at_call 56; (with_reducible refine (HU4.out _ HS3.out.tk).mono ?_); rintro e w4 ⟨rfl, hT4, hk4⟩; have HS4 := Lib.hid (HS3.out.call hk4 hT4)))
  obtain ⟨bb, hbb⟩ : ∃ bb, bb = w3.heap.size := ⟨_, rfl⟩
  have hS4 := HS4.out
  rw [← hbb] at hS4
  rw [← hbb]
  clear hbb HS4 HS3 HT0 HR0 HW HT1 HT2 HK1 HK2 hk3 hT3 hK3 hS3 hT4 hk4 HU1 HU2 HU3 HU4 hz3
  go_loopw [13] (fun i wr => ∃ (k : Nat) (A : List Tbl) (s' : TkS) (v : Value), k ≤ K ∧ i = .int .i64 (k : Int) ∧ DSd w bb n q g A [] v (.slice none 0 0) s' wr ∧ A.length ≤ k ∧ s'.1.length ≤ l.length ∧ (∀ x ∈ A, TblIn x) ∧ Hid (goA dTab K [] sM = goA dTab (K - k) A s')) (fun i _ => K - (intOf i).toNat)
  case atStart => exact ⟨0, [], sM, _, Nat.zero_le _, rfl, hS4, Nat.le_refl _, by omega, fun p hp => (by cases hp), rfl⟩
  case round =>
    obtain ⟨k, A, s', v, hk, rfl, hS, hAk, hsl, hpi, hgo⟩ := hrel
    obtain ⟨wo, rfl⟩ : ∃ wo : World, wo = wr := ⟨_, rfl⟩
    obtain ⟨ao, cap, rfl, hg0⟩ := Sq.row_cases hS.es.rowA
    by_cases hlt : k < K
    · obtain ⟨X, hX⟩ : ∃ X, dTab s' = X := ⟨_, rfl⟩
      have hstep : goA dTab K [] sM = goA dTab (K - (k + 1)) (A ++ [X.1]) X.2 := by
        rw [hgo.out, show K - k = (K - (k + 1)) + 1 by omega, goA, hX]
      have hi1 : (k : Int) < (K : Int) := by omega
      have HX1 := Lib.hid (fun W (h : Tk W (w.heap.size + 1) s') => number_any (w.heap.size + 1) s' W h (by omega))
      obtain ⟨e1b, e1⟩ := dvNum_in s'
      unfold dTab tabBy at hX
      generalize dvNum s' = y1 at *
      obtain ⟨a, sa⟩ := y1
      simp only at hX e1 e1b HX1
      have HX2 := Lib.hid (fun W (h : Tk W (w.heap.size + 1) sa) => small_any (w.heap.size + 1) sa 3 3 rfl W h (by omega) (by decide))
      obtain ⟨e2b, e2⟩ := dvSmall_in 3 sa
      generalize dvSmall 3 sa = y2 at *
      obtain ⟨b, sb⟩ := y2
      simp only at hX e2 e2b HX2
      have HX3 := Lib.hid (fun W (h : Tk W (w.heap.size + 1) sb) => small_any (w.heap.size + 1) sb 1073741824 1073741824 rfl W h (by omega) (by decide))
      obtain ⟨e3b, e3⟩ := dvSmall_in 1073741824 sb
      generalize dvSmall 1073741824 sb = y3 at *
      obtain ⟨c, sc⟩ := y3
      simp only at hX e3 e3b HX3
      have HX4 := Lib.hid (fun W (h : Tk W (w.heap.size + 1) sc) => small_any (w.heap.size + 1) sc 1073741824 1073741824 rfl W h (by omega) (by decide))
      obtain ⟨e4b, e4⟩ := dvSmall_in 1073741824 sc
      generalize dvSmall 1073741824 sc = y4 at *
      obtain ⟨d, sd⟩ := y4
      simp only at hX e4 e4b HX4
      have HX5 := Lib.hid (fun W (h : Tk W (w.heap.size + 1) sd) => key_any (w.heap.size + 1) sd W h (by omega))
      obtain ⟨e5b, e5⟩ := dvKey_in sd
      generalize dvKey sd = y5 at *
      obtain ⟨lo, se⟩ := y5
      simp only at hX e5 e5b HX5
      have HX6 := Lib.hid (fun W (h : Tk W (w.heap.size + 1) se) => key_any (w.heap.size + 1) se W h (by omega))
      obtain ⟨e6b, e6⟩ := dvKey_in se
      generalize dvKey se = y6 at *
      obtain ⟨hi', sf⟩ := y6
      simp only at hX e6 e6b HX6
      subst hX
      simp only at hstep
      have hq1 : TblIn ⟨a, b, c, d, lo, hi'⟩ := ⟨by simp only; omega, by simp only; omega, by simp only; omega, by simp only; omega, by simp only; omega, by simp only; omega, by simp only; omega, by simp only; omega, by simp only; omega, by simp only; omega⟩
      have HST := Lib.hid hstep
      have HS := Lib.hid (hS.below (Below.refl _ _).drew)
      obtain ⟨t0, t1, b0, b1, b2, b3, b4, f3, f4, z1, z2⟩ := hS.cells
      clear hgo hstep e1b e2b e3b e4b e5b e6b b0 b1 b2 b4 f3 f4 t0 t1 hS
      go_wp2_with fail
      refine wp_region_noPanic ?_
      have tk1 := trivial
      go_region_law (first
        | (have _t := tk1; clear _t tk1; go_simp; go_at_call 55; refine (HX1.out _ HS.out.tk).mono ?_; rintro e w1 ⟨rfl, hT, hk⟩; have HS1 := Lib.hid (HS.out.call hk hT); have tk2 := trivial; obtain ⟨_, _, _, _, _, c3, _, _, _, _, y2⟩ := HS1.out.cells)
        | (have _t := tk2; clear _t tk2; go_simp; go_at_call 56; refine (HX2.out _ HS1.out.tk).mono ?_; rintro e w2 ⟨rfl, hT, hk⟩; have HS2 := Lib.hid (HS1.out.call hk hT); have tk3 := trivial; obtain ⟨_, _, _, _, _, c3, _, _, _, _, y2⟩ := HS2.out.cells)
        | (have _t := tk3; clear _t tk3; go_simp; go_at_call 56; refine (HX3.out _ HS2.out.tk).mono ?_; rintro e w3 ⟨rfl, hT, hk⟩; have HS3 := Lib.hid (HS2.out.call hk hT); have tk4 := trivial; obtain ⟨_, _, _, _, _, c3, _, _, _, _, y2⟩ := HS3.out.cells)
        | (have _t := tk4; clear _t tk4; go_simp; go_at_call 56; refine (HX4.out _ HS3.out.tk).mono ?_; rintro e w4 ⟨rfl, hT, hk⟩; have HS4 := Lib.hid (HS3.out.call hk hT); have tk5 := trivial; obtain ⟨_, _, _, _, _, c3, _, _, _, _, y2⟩ := HS4.out.cells)
        | (have _t := tk5; clear _t tk5; go_simp; go_at_call 57; refine (HX5.out _ HS4.out.tk).mono ?_; rintro e w5 ⟨rfl, hT, hk⟩; have HS5 := Lib.hid (HS4.out.call hk hT); have tk6 := trivial; obtain ⟨_, _, _, _, _, c3, _, _, _, _, y2⟩ := HS5.out.cells)
        | (have _t := tk6; clear _t tk6; go_simp; go_at_call 57; refine (HX6.out _ HS5.out.tk).mono ?_; rintro e w6 ⟨rfl, hT, hk⟩; have HS6 := Lib.hid (HS5.out.call hk hT); obtain ⟨_, _, _, _, _, c3, _, _, _, _, y2⟩ := HS6.out.cells)
        | (refine step_append_lies _ (by rfl) _ _ _ (by rfl) w.heap.size 44 i0 _ 6 64 Try.underlying23 hi hz0 hz1 hz2 rfl (by omega) (.slice ao A.length cap) A.length _ (by rfl) (HS6.out.es.rowA.alloc _)
            ⟨w6.heap.size, 0, none⟩ 1 1 [.int .u64 (a : Int), .int .i64 (b : Int), .int .i64 (c : Int), .int .i64 (d : Int), .string (Cd.bs lo), .string (Cd.bs hi')] (by rfl) (by rfl) (World.news_of_block (cs := #[.int .u64 (a : Int), .int .i64 (b : Int), .int .i64 (c : Int), .int .i64 (d : Int), .string (Cd.bs lo), .string (Cd.bs hi')]) (t := 44) (fr := (0, 0)) (heap_alloc_new w6 _)) (by simp [Value.oneCell'])
            (by omega) (by unfold maxLen; omega) (by omega) (by have := HS6.out.be.size; simp at *; omega) (w6.heap.size + 1) (by simp) ?_; intro gb cap8 w8 hown hgrow hat8 hlt8; have HS8 := Lib.hid (HS6.out.below ((Below.refl _ _).alloc (Nat.le_refl _) (.cells #[.int .u64 (a : Int), .int .i64 (b : Int), .int .i64 (c : Int), .int .i64 (d : Int), .string (Cd.bs lo), .string (Cd.bs hi')] 44))); have hob := HS8.out.es.box.grown hgrow (HS8.out.es.box.not_row (by decide) HS8.out.es.rowA); have c8 := hob.cell 3; have f8 := hob.frozen 3; simp at c8; have HS9 := Lib.hid (HS8.out.addT ⟨a, b, c, d, lo, hi'⟩ hown hgrow); clear hown hgrow hob))
      all_goals
        refine NoPanic.normal ?_
        go_wp2_with fail
        go_roundw
        case rel => exact ⟨k + 1, A ++ [⟨a, b, c, d, lo, hi'⟩], sf, _, by omega, by go_num, HS9.out, by rw [List.length_append, List.length_singleton]; omega, by omega, tin_snoc hpi hq1, HST⟩
        case measure => simp [intOf]; omega
    · obtain rfl : k = K := by omega
      have hex : goA dTab k [] sM = (A, s') := by rw [hgo.out, Nat.sub_self, goA]
      rw [hex] at hA0
      rw [hA0] at hM2 hEd
      simp only at hM2 hEd
      have HX7 := Lib.hid (fun W (h : Tk W (w.heap.size + 1) s') => small_any (w.heap.size + 1) s' 1000 1000 rfl W h (by omega) (by decide))
      obtain ⟨e7b, e7⟩ := dvSmall_in 1000 s'
      rw [hM2] at hD0
      generalize dvSmall 1000 s' = y7 at *
      obtain ⟨K2, s2⟩ := y7
      simp only at hD0 e7 e7b HX7
      have HS := Lib.hid hS
      have HPI := Lib.hid hpi
      have hAK : A.length ≤ 1000 := by omega
      clear hgo hex hA0 hM2 hS hpi hS4 hK hAk
      go_wp2_with (go_at_call 56; (with_reducible refine (HX7.out _ HS.out.tk).mono ?_); rintro e w5 ⟨rfl, hT, hkk⟩; have HS5 := Lib.hid (HS.out.call hkk hT))
      clear hT hkk HS HX7
      go_loopw [29] (fun i wr => ∃ (k2 : Nat) (D : List Int) (s3 : TkS) (v : Value), k2 ≤ K2 ∧ i = .int .i64 (k2 : Int) ∧ DSd w bb n q g A D (.slice ao A.length cap) v s3 wr ∧ D.length ≤ k2 ∧ s3.1.length ≤ l.length ∧ (∀ d ∈ D, 0 ≤ d ∧ d ≤ 18446744073709551615) ∧ Hid (goA dDrop K2 [] s2 = goA dDrop (K2 - k2) D s3)) (fun i _ => K2 - (intOf i).toNat)
      case atStart => exact ⟨0, [], s2, _, Nat.zero_le _, rfl, HS5.out, Nat.le_refl _, by omega, fun p hp => (by cases hp), rfl⟩
      case round =>
        clear HS5
        obtain ⟨k2, D, s3, v, hk2, rfl, hS, hDk, hsl3, hdi, hgo⟩ := hrel
        obtain ⟨wo, rfl⟩ : ∃ wo : World, wo = wr := ⟨_, rfl⟩
        obtain ⟨t0, t1, b0, b1, b2, b3, b4, f3, f4, z1, z2⟩ := hS.cells
        obtain ⟨do', dcap, rfl, hg1⟩ := Sq.row_cases hS.es.rowD
        by_cases hlt : k2 < K2
        · have hX1 : dDrop s3 = (((dvNum s3).1 : Int), (dvNum s3).2) := rfl
          have hstep : goA dDrop K2 [] s2 = goA dDrop (K2 - (k2 + 1)) (D ++ [((dvNum s3).1 : Int)]) (dvNum s3).2 := by
            rw [hgo.out, show K2 - k2 = (K2 - (k2 + 1)) + 1 by omega, goA, hX1]
          have hi1 : (k2 : Int) < (K2 : Int) := by omega
          have HX1 := Lib.hid (fun W (h : Tk W (w.heap.size + 1) s3) => number_any (w.heap.size + 1) s3 W h (by omega))
          obtain ⟨e1b, e1⟩ := dvNum_in s3
          generalize dvNum s3 = y1 at *
          obtain ⟨a, sa⟩ := y1
          simp only at hstep e1 e1b HX1
          have HST := Lib.hid hstep
          have HS := Lib.hid (hS.below (Below.refl _ _).drew)
          clear hgo hS hstep b0 b1 b2 b3 f3 f4 hX1 t0 t1
          go_wp2_with fail
          refine wp_region_noPanic ?_
          go_region_law (first
            | (go_simp; go_at_call 55; refine (HX1.out _ HS.out.tk).mono ?_; rintro e w6 ⟨rfl, hT, hk⟩; have HS6 := Lib.hid (HS.out.call hk hT); obtain ⟨_, _, _, _, _, _, c4, _, _, _, y2⟩ := HS6.out.cells)
            | (refine step_append_lies _ (by rfl) _ _ _ (by rfl) w.heap.size 22 j0 _ 1 8 Try.underlying24 ji jz0 jz1 jz2 rfl (by omega) (.slice do' D.length dcap) D.length _ (by rfl) (HS6.out.es.rowD.alloc _)
                ⟨w6.heap.size, 0, none⟩ 1 1 [.int .u64 (a : Int)] (by rfl) (by rfl) (World.news_of_block (cs := #[.int .u64 (a : Int)]) (t := 22) (fr := (0, 0)) (heap_alloc_new w6 _)) (by simp [Value.oneCell'])
                (by omega) (by unfold maxLen; omega) (by omega) (by have := HS6.out.be.size; simp at *; omega) (w6.heap.size + 1) (by simp) ?_; intro gb cap8 w8 hown hgrow hat8 hlt8; have HS8 := Lib.hid (HS6.out.below ((Below.refl _ _).alloc (Nat.le_refl _) (.cells #[.int .u64 (a : Int)] 22))); have hob := HS8.out.es.box.grown hgrow (HS8.out.es.box.not_row (by decide) HS8.out.es.rowD); have c8 := hob.cell 4; have f8 := hob.frozen 4; simp at c8; have HS9 := Lib.hid (HS8.out.addD (a : Int) hown hgrow); clear hown hgrow hob))
          all_goals
            refine NoPanic.normal ?_
            go_wp2_with fail
            go_roundw
            case rel => exact ⟨k2 + 1, D ++ [(a : Int)], sa, _, by omega, by go_num, HS9.out, by rw [List.length_append, List.length_singleton]; omega, by omega, din_snoc hdi ⟨by omega, by omega⟩, HST⟩
            case measure => simp [intOf]; omega
        · obtain rfl : k2 = K2 := by omega
          have hex : goA dDrop k2 [] s2 = (D, s3) := by rw [hgo.out, Nat.sub_self, goA]
          rw [hex] at hD0
          rw [hD0] at hEd
          have HE := Lib.hid hEd
          have HV0 := Lib.hid (show decide ((dD l).2.2 = false ∧ (dD l).2.1 = []) = decide (s3.2 = false ∧ s3.1 = []) by rw [hD0])
          have HS := Lib.hid hS
          have HDI := Lib.hid hdi
          have hDK : D.length ≤ 1000 := by omega
          obtain ⟨r0, r1, r2, r3, r4, g0, g1, g2, g3, g4⟩ := hS.rcells
          have hlr := hS.res.lt
          obtain ⟨sl, sb⟩ := s3
          simp only at t0 t1 HV0
          clear hgo hex hD0 hEd hS hdi
          have h3 : sb = true ∨ (sb = false ∧ sl = []) ∨ (sb = false ∧ sl ≠ []) := by cases sb <;> by_cases h1 : sl = [] <;> simp [h1]
          rcases h3 with rfl | ⟨rfl, rfl⟩ | ⟨rfl, h1⟩
          · have HV := Lib.hid (HV0.out.trans (decide_eq_false (fun h => by cases h.1)))
            go_wp2_with fail
            go_big_region
            all_goals go_wp2_with fail
            refine bodyPost_ret (v := .tuple #[edV ⟨n, q, g, A, D⟩ (.slice ao A.length cap) (.slice do' D.length dcap), .bool false]) (by simp [edV, results, Try.results29, go_sem, r0, r1, r2, r3, r4, hlr]) rfl ?_
            exact take_out HE.out HV.out rfl (Ob.row_other (Ob.row_other (Ob.row_other (Ob.row_other (Ob.row_other (HS.out.es.rowA) (p := ⟨w.heap.size, 0, none⟩) (HS.out.res.not_row (by decide) HS.out.es.rowA) _) (p := ⟨w.heap.size, 1, none⟩) (HS.out.res.not_row (by decide) HS.out.es.rowA) _) (p := ⟨w.heap.size, 2, none⟩) (HS.out.res.not_row (by decide) HS.out.es.rowA) _) (p := ⟨w.heap.size, 3, none⟩) (HS.out.res.not_row (by decide) HS.out.es.rowA) _) (p := ⟨w.heap.size, 4, none⟩) (HS.out.res.not_row (by decide) HS.out.es.rowA) _) (Ob.row_other (Ob.row_other (Ob.row_other (Ob.row_other (Ob.row_other (HS.out.es.rowD) (p := ⟨w.heap.size, 0, none⟩) (HS.out.res.not_row (by decide) HS.out.es.rowD) _) (p := ⟨w.heap.size, 1, none⟩) (HS.out.res.not_row (by decide) HS.out.es.rowD) _) (p := ⟨w.heap.size, 2, none⟩) (HS.out.res.not_row (by decide) HS.out.es.rowD) _) (p := ⟨w.heap.size, 3, none⟩) (HS.out.res.not_row (by decide) HS.out.es.rowD) _) (p := ⟨w.heap.size, 4, none⟩) (HS.out.res.not_row (by decide) HS.out.es.rowD) _) ⟨tbs_of_own (Ob.row_other (Ob.row_other (Ob.row_other (Ob.row_other (Ob.row_other (HS.out.es.rowA) (p := ⟨w.heap.size, 0, none⟩) (HS.out.res.not_row (by decide) HS.out.es.rowA) _) (p := ⟨w.heap.size, 1, none⟩) (HS.out.res.not_row (by decide) HS.out.es.rowA) _) (p := ⟨w.heap.size, 2, none⟩) (HS.out.res.not_row (by decide) HS.out.es.rowA) _) (p := ⟨w.heap.size, 3, none⟩) (HS.out.res.not_row (by decide) HS.out.es.rowA) _) (p := ⟨w.heap.size, 4, none⟩) (HS.out.res.not_row (by decide) HS.out.es.rowA) _), ns_of_own (Ob.row_other (Ob.row_other (Ob.row_other (Ob.row_other (Ob.row_other (HS.out.es.rowD) (p := ⟨w.heap.size, 0, none⟩) (HS.out.res.not_row (by decide) HS.out.es.rowD) _) (p := ⟨w.heap.size, 1, none⟩) (HS.out.res.not_row (by decide) HS.out.es.rowD) _) (p := ⟨w.heap.size, 2, none⟩) (HS.out.res.not_row (by decide) HS.out.es.rowD) _) (p := ⟨w.heap.size, 3, none⟩) (HS.out.res.not_row (by decide) HS.out.es.rowD) _) (p := ⟨w.heap.size, 4, none⟩) (HS.out.res.not_row (by decide) HS.out.es.rowD) _), HPI.out, HDI.out, by show (0 : Int) ≤ n; omega, by show (n : Int) ≤ _; omega, by show (0 : Int) ≤ q; omega, by show (q : Int) ≤ _; omega, by show (0 : Int) ≤ g; omega, by show (g : Int) ≤ _; omega, by show A.length ≤ _; omega, by show D.length ≤ _; omega⟩ (((((HS.out.be.setCell (by simp) _).setCell (by simp) _).setCell (by simp) _).setCell (by simp) _).setCell (by simp) _)
          · have HV := Lib.hid (HV0.out.trans (decide_eq_true ⟨rfl, rfl⟩))
            go_wp2_with fail
            go_big_region
            all_goals go_wp2_with fail
            refine bodyPost_ret (v := .tuple #[edV ⟨n, q, g, A, D⟩ (.slice ao A.length cap) (.slice do' D.length dcap), .bool true]) (by simp [edV, results, Try.results29, go_sem, r0, r1, r2, r3, r4, hlr]) rfl ?_
            exact take_out HE.out HV.out rfl (Ob.row_other (Ob.row_other (Ob.row_other (Ob.row_other (Ob.row_other (HS.out.es.rowA) (p := ⟨w.heap.size, 0, none⟩) (HS.out.res.not_row (by decide) HS.out.es.rowA) _) (p := ⟨w.heap.size, 1, none⟩) (HS.out.res.not_row (by decide) HS.out.es.rowA) _) (p := ⟨w.heap.size, 2, none⟩) (HS.out.res.not_row (by decide) HS.out.es.rowA) _) (p := ⟨w.heap.size, 3, none⟩) (HS.out.res.not_row (by decide) HS.out.es.rowA) _) (p := ⟨w.heap.size, 4, none⟩) (HS.out.res.not_row (by decide) HS.out.es.rowA) _) (Ob.row_other (Ob.row_other (Ob.row_other (Ob.row_other (Ob.row_other (HS.out.es.rowD) (p := ⟨w.heap.size, 0, none⟩) (HS.out.res.not_row (by decide) HS.out.es.rowD) _) (p := ⟨w.heap.size, 1, none⟩) (HS.out.res.not_row (by decide) HS.out.es.rowD) _) (p := ⟨w.heap.size, 2, none⟩) (HS.out.res.not_row (by decide) HS.out.es.rowD) _) (p := ⟨w.heap.size, 3, none⟩) (HS.out.res.not_row (by decide) HS.out.es.rowD) _) (p := ⟨w.heap.size, 4, none⟩) (HS.out.res.not_row (by decide) HS.out.es.rowD) _) ⟨tbs_of_own (Ob.row_other (Ob.row_other (Ob.row_other (Ob.row_other (Ob.row_other (HS.out.es.rowA) (p := ⟨w.heap.size, 0, none⟩) (HS.out.res.not_row (by decide) HS.out.es.rowA) _) (p := ⟨w.heap.size, 1, none⟩) (HS.out.res.not_row (by decide) HS.out.es.rowA) _) (p := ⟨w.heap.size, 2, none⟩) (HS.out.res.not_row (by decide) HS.out.es.rowA) _) (p := ⟨w.heap.size, 3, none⟩) (HS.out.res.not_row (by decide) HS.out.es.rowA) _) (p := ⟨w.heap.size, 4, none⟩) (HS.out.res.not_row (by decide) HS.out.es.rowA) _), ns_of_own (Ob.row_other (Ob.row_other (Ob.row_other (Ob.row_other (Ob.row_other (HS.out.es.rowD) (p := ⟨w.heap.size, 0, none⟩) (HS.out.res.not_row (by decide) HS.out.es.rowD) _) (p := ⟨w.heap.size, 1, none⟩) (HS.out.res.not_row (by decide) HS.out.es.rowD) _) (p := ⟨w.heap.size, 2, none⟩) (HS.out.res.not_row (by decide) HS.out.es.rowD) _) (p := ⟨w.heap.size, 3, none⟩) (HS.out.res.not_row (by decide) HS.out.es.rowD) _) (p := ⟨w.heap.size, 4, none⟩) (HS.out.res.not_row (by decide) HS.out.es.rowD) _), HPI.out, HDI.out, by show (0 : Int) ≤ n; omega, by show (n : Int) ≤ _; omega, by show (0 : Int) ≤ q; omega, by show (q : Int) ≤ _; omega, by show (0 : Int) ≤ g; omega, by show (g : Int) ≤ _; omega, by show A.length ≤ _; omega, by show D.length ≤ _; omega⟩ (((((HS.out.be.setCell (by simp) _).setCell (by simp) _).setCell (by simp) _).setCell (by simp) _).setCell (by simp) _)
          · have HV := Lib.hid (HV0.out.trans (decide_eq_false (fun h => h1 h.2)))
            have hse : (sl == []) = false := by simpa using h1
            have hse2 : sl.isEmpty = false := by simpa using h1
            clear h1
            go_wp2_with fail
            go_big_region
            all_goals go_wp2_with fail
            refine bodyPost_ret (v := .tuple #[edV ⟨n, q, g, A, D⟩ (.slice ao A.length cap) (.slice do' D.length dcap), .bool false]) (by simp [edV, results, Try.results29, go_sem, r0, r1, r2, r3, r4, hlr]) rfl ?_
            exact take_out HE.out HV.out rfl (Ob.row_other (Ob.row_other (Ob.row_other (Ob.row_other (Ob.row_other (HS.out.es.rowA) (p := ⟨w.heap.size, 0, none⟩) (HS.out.res.not_row (by decide) HS.out.es.rowA) _) (p := ⟨w.heap.size, 1, none⟩) (HS.out.res.not_row (by decide) HS.out.es.rowA) _) (p := ⟨w.heap.size, 2, none⟩) (HS.out.res.not_row (by decide) HS.out.es.rowA) _) (p := ⟨w.heap.size, 3, none⟩) (HS.out.res.not_row (by decide) HS.out.es.rowA) _) (p := ⟨w.heap.size, 4, none⟩) (HS.out.res.not_row (by decide) HS.out.es.rowA) _) (Ob.row_other (Ob.row_other (Ob.row_other (Ob.row_other (Ob.row_other (HS.out.es.rowD) (p := ⟨w.heap.size, 0, none⟩) (HS.out.res.not_row (by decide) HS.out.es.rowD) _) (p := ⟨w.heap.size, 1, none⟩) (HS.out.res.not_row (by decide) HS.out.es.rowD) _) (p := ⟨w.heap.size, 2, none⟩) (HS.out.res.not_row (by decide) HS.out.es.rowD) _) (p := ⟨w.heap.size, 3, none⟩) (HS.out.res.not_row (by decide) HS.out.es.rowD) _) (p := ⟨w.heap.size, 4, none⟩) (HS.out.res.not_row (by decide) HS.out.es.rowD) _) ⟨tbs_of_own (Ob.row_other (Ob.row_other (Ob.row_other (Ob.row_other (Ob.row_other (HS.out.es.rowA) (p := ⟨w.heap.size, 0, none⟩) (HS.out.res.not_row (by decide) HS.out.es.rowA) _) (p := ⟨w.heap.size, 1, none⟩) (HS.out.res.not_row (by decide) HS.out.es.rowA) _) (p := ⟨w.heap.size, 2, none⟩) (HS.out.res.not_row (by decide) HS.out.es.rowA) _) (p := ⟨w.heap.size, 3, none⟩) (HS.out.res.not_row (by decide) HS.out.es.rowA) _) (p := ⟨w.heap.size, 4, none⟩) (HS.out.res.not_row (by decide) HS.out.es.rowA) _), ns_of_own (Ob.row_other (Ob.row_other (Ob.row_other (Ob.row_other (Ob.row_other (HS.out.es.rowD) (p := ⟨w.heap.size, 0, none⟩) (HS.out.res.not_row (by decide) HS.out.es.rowD) _) (p := ⟨w.heap.size, 1, none⟩) (HS.out.res.not_row (by decide) HS.out.es.rowD) _) (p := ⟨w.heap.size, 2, none⟩) (HS.out.res.not_row (by decide) HS.out.es.rowD) _) (p := ⟨w.heap.size, 3, none⟩) (HS.out.res.not_row (by decide) HS.out.es.rowD) _) (p := ⟨w.heap.size, 4, none⟩) (HS.out.res.not_row (by decide) HS.out.es.rowD) _), HPI.out, HDI.out, by show (0 : Int) ≤ n; omega, by show (n : Int) ≤ _; omega, by show (0 : Int) ≤ q; omega, by show (q : Int) ≤ _; omega, by show (0 : Int) ≤ g; omega, by show (g : Int) ≤ _; omega, by show A.length ≤ _; omega, by show D.length ≤ _; omega⟩ (((((HS.out.be.setCell (by simp) _).setCell (by simp) _).setCell (by simp) _).setCell (by simp) _).setCell (by simp) _)
end Md10
end Go.Proofs.Yteckjhhbljoklaa
