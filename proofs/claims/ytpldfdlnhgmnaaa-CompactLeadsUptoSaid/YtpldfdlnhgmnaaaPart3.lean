import Derived.Laws.CopyOwn
import Derived.Below
import Derived.WalkKit
import Derived.Test.YtpldfdlnhgmnaaaPart2
/-
  Plain mathematics of chapter 4 (files): a file system over a disk as a state, and what each call makes of it. No program is named here.
-/
namespace Go.Proofs.Ytpldfdlnhgmnaaa
namespace Fi
open Op (bytesLess)

/-- the root with whose bytes a text begins -/
def IsRoot (l : Dat) (n : Int) (r : Root) : Prop := (encode r n).2 = 0 ∧ (encode r n).1 <+: l
open Classical in
noncomputable def decode (l : Dat) (n : Int) : Option Root := if h : ∃ r, IsRoot l n r then some h.choose else none

/-- a file at hand: its bytes; how many of them are old, and in which blocks these lie -/
structure HF where
  name : Dat
  data : Dat
  old : Nat
  blocks : List Int
structure FS where
  epoch : Nat
  safe : Root
  hand : List HF
  changed : Bool

def dead (σ : Bl.St) (φ : FS) : Bool := σ.down || (σ.epochs != φ.epoch)
def head (g : Nat) : Dat := Cd.big g ++ List.replicate 240 0 ++ Cd.big g
def blk (σ : Bl.St) (b : Int) : Dat := (Bl.read σ b).1
def load (σ : Bl.St) (f : File) : Dat := (f.blocks.flatMap (blk σ)).take f.size.toNat
def handOf (σ : Bl.St) (f : File) : HF := ⟨f.name, load σ f, f.size.toNat, f.blocks⟩
/-- P4.5 -/
def revert (σ : Bl.St) (φ : FS) : FS := if dead σ φ then φ else { φ with hand := φ.safe.files.map (handOf σ), changed := false }

/-- bytes as blocks, the last one with noughts behind -/
def chunks : Dat → List Dat
  | [] => []
  | x :: r => ((x :: r).take 256 ++ List.replicate (256 - ((x :: r).take 256).length) 0) :: chunks ((x :: r).drop 256)
termination_by l => l.length
decreasing_by simp; omega
/-- writes, one by one, up to the first one that is refused -/
def writes : Bl.St → List (Int × Dat) → Bl.St × Nat
  | σ, [] => (σ, 0)
  | σ, x :: r => if (Bl.write σ x.1 x.2).2 = 0 then writes (Bl.write σ x.1 x.2).1 r else ((Bl.write σ x.1 x.2).1, (Bl.write σ x.1 x.2).2)
def rootAt (r : Root) : Int := 16 * ((r.gen % 2 : Nat) : Int)
/-- where a root's bytes are written -/
def bodyW (r : Root) (s : Dat) : List (Int × Dat) := (chunks s).zipIdx.map fun p => (rootAt r + 1 + (p.2 : Int), p.1)
/-- P4.7, 2. and 3. -/
def put (σ : Bl.St) (ws : List (Int × Dat)) (r : Root) : Bl.St × Nat :=
  if (encode r σ.safe.length).2 ≠ 0 then (σ, 5) else
  let a := writes σ (ws ++ bodyW r (encode r σ.safe.length).1)
  if a.2 ≠ 0 then a else
  let b := Bl.sync a.1
  if b.2 ≠ 0 then b else
  let c := Bl.write b.1 (rootAt r) (head r.gen)
  if c.2 ≠ 0 then c else Bl.sync c.1

/-- a slot's root -/
noncomputable def slotRoot (σ : Bl.St) (k : Nat) : Option Root :=
  (decode ((List.range 15).flatMap fun (i : Nat) => blk σ (16 * (k : Int) + 1 + (i : Int))) σ.safe.length).filter fun r => decide (r.gen % 2 = k) && decide (blk σ (16 * (k : Int)) = head r.gen)
noncomputable def safeRoot (σ : Bl.St) : Option Root :=
  match slotRoot σ 0, slotRoot σ 1 with
  | some a, some b => some (if a.gen < b.gen then b else a)
  | some a, none => some a
  | none, b => b
/-- P4.2 -/
noncomputable def «open» (σ : Bl.St) : Bl.St × Option FS × Nat :=
  if σ.down then (σ, none, 4) else
  match safeRoot σ with
  | some r => (σ, some (revert σ ⟨σ.epochs, r, [], false⟩), 0)
  | none => if (put σ [] ⟨1, []⟩).2 ≠ 0 then ((put σ [] ⟨1, []⟩).1, none, (put σ [] ⟨1, []⟩).2) else ((put σ [] ⟨1, []⟩).1, some (revert (put σ [] ⟨1, []⟩).1 ⟨σ.epochs, ⟨1, []⟩, [], false⟩), 0)

def find (φ : FS) (name : Dat) : Option HF := φ.hand.find? fun f => f.name == name
def names (σ : Bl.St) (φ : FS) : List Dat := if dead σ φ then [] else φ.hand.map (·.name)
def size (σ : Bl.St) (φ : FS) (name : Dat) : Nat × Nat := if dead σ φ then (0, 4) else match find φ name with | none => (0, 6) | some f => (f.data.length, 0)
def read (σ : Bl.St) (φ : FS) (name : Dat) (i n : Int) : Dat × Nat :=
  if dead σ φ then ([], 4) else if i < 0 ∨ n < 0 then ([], 1) else match find φ name with | none => ([], 6) | some f => ((f.data.drop i.toNat).take n.toNat, 0)
/-- a file more, where its name stands -/
def insert (l : List HF) (x : HF) : List HF := l.takeWhile (fun f => bytesLess f.name x.name) ++ x :: l.dropWhile (fun f => bytesLess f.name x.name)
def drop (l : List HF) (name : Dat) : List HF := l.filter fun f => f.name != name
def create (σ : Bl.St) (φ : FS) (name : Dat) : FS × Nat :=
  if dead σ φ then (φ, 4) else if nameB name = false then (φ, 1) else match find φ name with
  | some _ => (φ, 7)
  | none => if 64 ≤ φ.hand.length then (φ, 5) else ({ φ with hand := insert φ.hand ⟨name, [], 0, []⟩, changed := true }, 0)
def append (σ : Bl.St) (φ : FS) (name s : Dat) : FS × Nat :=
  if dead σ φ then (φ, 4) else match find φ name with
  | none => (φ, 6)
  | some _ => ({ φ with hand := φ.hand.map fun f => if f.name == name then { f with data := f.data ++ s } else f, changed := φ.changed || !s.isEmpty }, 0)
def delete (σ : Bl.St) (φ : FS) (name : Dat) : FS × Nat :=
  if dead σ φ then (φ, 4) else match find φ name with | none => (φ, 6) | some _ => ({ φ with hand := drop φ.hand name, changed := true }, 0)
def rename (σ : Bl.St) (φ : FS) (a b : Dat) : FS × Nat :=
  if dead σ φ then (φ, 4) else if nameB b = false then (φ, 1) else match find φ a with
  | none => (φ, 6)
  | some f => if a = b then (φ, 0) else ({ φ with hand := insert (drop (drop φ.hand a) b) { f with name := b }, changed := true }, 0)
/-- the blocks that a commit may take, rising -/
def freeL (σ : Bl.St) (φ : FS) : List Int := ((List.range σ.safe.length).map fun (i : Nat) => (i : Int)).filter fun b => decide (32 ≤ b) && !(φ.safe.files.any fun f => f.blocks.contains b)
def free (σ : Bl.St) (φ : FS) : Nat := if dead σ φ then 0 else (freeL σ φ).length
/-- a commit's plan: the files, one by one, take of the free blocks -/
def plan : List HF → List Int → Option (List File × List (Int × Dat))
  | [], _ => some ([], [])
  | f :: r, fr =>
    if f.data.length ≤ f.old then (plan r fr).map fun x => (⟨f.name, (f.data.length : Int), f.blocks⟩ :: x.1, x.2) else
    let new := chunks (f.data.drop (f.old / 256 * 256))
    if fr.length < new.length then none else
    (plan r (fr.drop new.length)).map fun x => (⟨f.name, (f.data.length : Int), f.blocks.take (f.old / 256) ++ fr.take new.length⟩ :: x.1, (fr.take new.length).zip new ++ x.2)
/-- P4.7 -/
def commit (σ : Bl.St) (φ : FS) : Bl.St × FS × Nat :=
  if dead σ φ then (σ, φ, 4) else if φ.changed = false then (σ, φ, 0) else
  match plan φ.hand (freeL σ φ) with
  | none => (σ, φ, 5)
  | some p =>
    if (encode ⟨φ.safe.gen + 1, p.1⟩ σ.safe.length).2 ≠ 0 then (σ, φ, 5) else
    if (put σ p.2 ⟨φ.safe.gen + 1, p.1⟩).2 ≠ 0 then ((put σ p.2 ⟨φ.safe.gen + 1, p.1⟩).1, φ, (put σ p.2 ⟨φ.safe.gen + 1, p.1⟩).2)
    else ((put σ p.2 ⟨φ.safe.gen + 1, p.1⟩).1, revert (put σ p.2 ⟨φ.safe.gen + 1, p.1⟩).1 { φ with safe := ⟨φ.safe.gen + 1, p.1⟩ }, 0)
def root (σ : Bl.St) (φ : FS) : Root := if dead σ φ then ⟨0, []⟩ else φ.safe

/-! ### P4.10: what is pending behind a commit is of blocks that it may take, or of the other slot -/
theorem act_wait' (σ : Bl.St) : (Bl.act σ).1.wait = σ.wait := (Bl.act_safe σ).2.1
theorem write_wait (σ : Bl.St) (i : Int) (s : Dat) : ∀ x ∈ (Bl.write σ i s).1.wait, x ∈ σ.wait ∨ ((x.1 : Int) = i) := by
  intro x hx
  unfold Bl.write at hx
  split at hx
  · exact .inl hx
  · split at hx
    · rename_i h
      rw [act_wait'] at hx
      rcases List.mem_append.1 hx with h1 | h1
      · exact .inl h1
      · simp at h1; subst h1; exact .inr (by have := h.1.1; simp; omega)
    · exact .inl hx
theorem writes_wait : ∀ (ws : List (Int × Dat)) (σ : Bl.St), ∀ x ∈ (writes σ ws).1.wait, x ∈ σ.wait ∨ ∃ y ∈ ws, (x.1 : Int) = y.1
  | [], σ => fun x hx => .inl hx
  | y :: r, σ => fun x hx => by
    unfold writes at hx
    split at hx
    · rcases writes_wait r _ x hx with h | ⟨z, hz, e⟩
      · rcases write_wait σ y.1 y.2 x h with h | h
        · exact .inl h
        · exact .inr ⟨y, List.mem_cons_self .., h⟩
      · exact .inr ⟨z, List.mem_cons_of_mem _ hz, e⟩
    · rcases write_wait σ y.1 y.2 x hx with h | h
      · exact .inl h
      · exact .inr ⟨y, List.mem_cons_self .., h⟩
theorem sync_wait (σ : Bl.St) : ∀ x ∈ (Bl.sync σ).1.wait, x ∈ σ.wait := by
  intro x hx
  unfold Bl.sync at hx
  split at hx
  · exact hx
  · split at hx
    · rw [act_wait'] at hx; exact hx
    · cases hx
theorem put_wait (σ : Bl.St) (ws : List (Int × Dat)) (r : Root) : ∀ x ∈ (put σ ws r).1.wait, x ∈ σ.wait ∨ (∃ y ∈ ws, (x.1 : Int) = y.1) ∨ (∃ y ∈ bodyW r (encode r σ.safe.length).1, (x.1 : Int) = y.1) ∨ (x.1 : Int) = rootAt r := by
  intro x hx
  have step : ∀ x ∈ (writes σ (ws ++ bodyW r (encode r σ.safe.length).1)).1.wait, x ∈ σ.wait ∨ (∃ y ∈ ws, (x.1 : Int) = y.1) ∨ (∃ y ∈ bodyW r (encode r σ.safe.length).1, (x.1 : Int) = y.1) ∨ (x.1 : Int) = rootAt r := fun x h => by
    rcases writes_wait _ _ x h with h | ⟨y, hy, e⟩
    · exact .inl h
    · rcases List.mem_append.1 hy with hy | hy
      · exact .inr (.inl ⟨y, hy, e⟩)
      · exact .inr (.inr (.inl ⟨y, hy, e⟩))
  unfold put at hx
  split at hx
  · exact .inl hx
  · simp only at hx
    split at hx
    · exact step x hx
    · split at hx
      · exact step x (sync_wait _ x hx)
      · split at hx
        · rcases write_wait _ _ _ x hx with h | h
          · exact step x (sync_wait _ x h)
          · exact .inr (.inr (.inr h))
        · rcases write_wait _ _ _ x (sync_wait _ x hx) with h | h
          · exact step x (sync_wait _ x h)
          · exact .inr (.inr (.inr h))
theorem plan_free : ∀ (l : List HF) (fr : List Int) (p : List File × List (Int × Dat)), plan l fr = some p → ∀ y ∈ p.2, y.1 ∈ fr
  | [], fr, p, h => by simp only [plan, Option.some.injEq] at h; subst h; exact fun y hy => by cases hy
  | f :: r, fr, p, h => by
    unfold plan at h
    split at h
    · obtain ⟨x, hx, rfl⟩ := Option.map_eq_some_iff.1 h
      exact plan_free r fr x hx
    · simp only at h
      split at h
      · cases h
      · obtain ⟨x, hx, rfl⟩ := Option.map_eq_some_iff.1 h
        intro y hy
        rcases List.mem_append.1 hy with hy | hy
        · exact List.mem_of_mem_take (List.of_mem_zip (a := y.1) (b := y.2) hy).1
        · exact List.mem_of_mem_drop (plan_free r _ x hx y hy)
set_option maxRecDepth 100000 in
theorem chunks_len (s : Dat) : (chunks s).length * 256 < s.length + 256 := by
  induction h : s.length using Nat.strongRecOn generalizing s with
  | _ n ih =>
    match s, h with
    | [], h => rw [chunks]; simp
    | x :: r, h =>
      rw [chunks, List.length_cons]
      have := ih ((x :: r).drop 256).length (by rw [List.length_drop, h]; simp at h; omega) _ rfl
      rw [List.length_drop] at this
      simp at h this ⊢
      by_cases h2 : (chunks (r.drop 255)).length = 0
      · omega
      · have h3 : 256 ≤ r.length + 1 := by
          by_cases h4 : r.length + 1 ≤ 256
          · have : r.drop 255 = [] := List.drop_eq_nil_of_le (by omega)
            rw [this, chunks] at h2; simp at h2
          · omega
        omega
set_option maxRecDepth 100000 in
theorem bodyW_in {r : Root} {s : Dat} (hs : s.length ≤ 3840) : ∀ y ∈ bodyW r s, rootAt r < y.1 ∧ y.1 ≤ rootAt r + 15 := by
  intro y hy
  unfold bodyW at hy
  obtain ⟨p, hp, rfl⟩ := List.mem_map.1 hy
  have := (List.mem_zipIdx hp).2.1
  have h2 := chunks_len s
  simp only
  omega
theorem encode_short (r : Root) (n : Int) : (encode r n).1.length ≤ 3840 := by
  unfold encode
  split
  · split
    · rename_i h; exact h.2
    · simp
  · simp
/-- P4.10 -/
theorem commit_keeps {σ : Bl.St} {φ : FS} (hw : σ.wait = []) (hsafe : ∀ f ∈ φ.safe.files, ∀ b ∈ f.blocks, 32 ≤ b) : ∀ x ∈ (commit σ φ).1.wait, ¬ (rootAt φ.safe ≤ (x.1 : Int) ∧ (x.1 : Int) < rootAt φ.safe + 16) ∧ ∀ f ∈ φ.safe.files, (x.1 : Int) ∉ f.blocks := by
  intro x hx
  unfold commit at hx
  split at hx
  · rw [hw] at hx; cases hx
  · split at hx
    · rw [hw] at hx; cases hx
    · split at hx
      · rw [hw] at hx; cases hx
      · rename_i p hp
        have key : x ∈ (put σ p.2 ⟨φ.safe.gen + 1, p.1⟩).1.wait → _ := fun h => put_wait σ p.2 _ x h
        have hin : x ∈ (put σ p.2 ⟨φ.safe.gen + 1, p.1⟩).1.wait ∨ x ∈ σ.wait := by
          split at hx
          · exact .inr hx
          · split at hx <;> exact .inl hx
        rcases hin with hin | hin
        · have hfree : ∀ b ∈ freeL σ φ, 32 ≤ b ∧ ∀ f ∈ φ.safe.files, b ∉ f.blocks := fun b hb => by
            unfold freeL at hb
            have := (List.mem_filter.1 hb).2
            simp at this
            exact ⟨this.1, fun f hf => this.2 f hf⟩
          have hr : rootAt (⟨φ.safe.gen + 1, p.1⟩ : Root) = 16 - rootAt φ.safe := by unfold rootAt; simp only; omega
          have hr2 : rootAt φ.safe = 0 ∨ rootAt φ.safe = 16 := by unfold rootAt; omega
          have low : ∀ {b : Int}, b < 32 → ∀ f ∈ φ.safe.files, b ∉ f.blocks := fun hb f hf hm => by have := hsafe f hf _ hm; omega
          rcases key hin with h | ⟨y, hy, e⟩ | ⟨y, hy, e⟩ | e
          · rw [hw] at h; cases h
          · obtain ⟨k1, k2⟩ := hfree y.1 (plan_free _ _ p hp y hy)
            rw [e]
            exact ⟨by omega, k2⟩
          · obtain ⟨k1, k2⟩ := bodyW_in (encode_short _ _) y hy
            rw [e]
            exact ⟨by omega, low (by omega)⟩
          · rw [e]
            exact ⟨by omega, low (by omega)⟩
        · rw [hw] at hin; cases hin
end Fi
end Go.Proofs.Ytpldfdlnhgmnaaa

/-
  Plain mathematics of P1.8: what is written is read again; keys rise as what they are keys of.
-/
namespace Go.Proofs.Ytpldfdlnhgmnaaa
namespace Cd
open Go.RowKit
open Op (bytesLess)

theorem chain {a b c : World} (h : Below a.heap.size a b) (k : Below b.heap.size b c) : Below a.heap.size a c := h.trans (k.mono h.size)

theorem ofNat_low {m : Nat} (h : m < 256) : (UInt8.ofNat m).toNat = m := by rw [UInt8.toNat_ofNat']; omega

theorem takeGo_putU (r : List UInt8) (m : Nat) : ∀ (i acc : Nat), i ≤ 9 → m * 128 ^ i < 18446744073709551616 → (0 < i → 1 ≤ m) →
    takeGo (putU m ++ r) i acc = (acc + m * 128 ^ i, i + (putU m).length, 0) := by
  induction m using Nat.strongRecOn with
  | ind m ih =>
    intro i acc hi hm h1
    have h9 : (128 : Nat) ^ 9 = 9223372036854775808 := by decide
    by_cases h : m < 128
    · rw [putU_last h, List.cons_append, List.nil_append]
      have e := ofNat_low (m := m) (by omega)
      rw [go_last (by
        rw [e]
        rintro (⟨rfl, h2⟩ | ⟨h2, h3⟩)
        · have : 2 * 128 ^ 9 ≤ m * 128 ^ 9 := Nat.mul_le_mul_right _ h2
          omega
        · have := h1 h2; omega) (by rw [e]; exact h), e, Nat.mod_eq_of_lt h]
      simp
    · have e := ofNat_low (m := m % 128 + 128) (by omega)
      have hi8 : i ≠ 9 := by
        rintro rfl
        have : 128 * 128 ^ 9 ≤ m * 128 ^ 9 := Nat.mul_le_mul_right _ (by omega)
        omega
      rw [putU_more (by omega), List.cons_append, go_more (by rw [e]; omega) (by rw [e]; omega), e]
      have hs := put_step (m := m) (k := i) (Nat.le_refl _)
      rw [ih (m / 128) (by omega) (i + 1) _ (by omega) (by omega) (by omega)]
      have e2 : (m % 128 + 128) % 128 = m % 128 := by omega
      have e3 : m % 128 * 128 ^ i + m / 128 * 128 ^ (i + 1) = m * 128 ^ i := by
        rw [pow_s, ← Nat.mul_assoc, ← Nat.add_mul]
        congr 1; omega
      rw [e2, List.length_cons]
      simp only [Prod.mk.injEq, and_true]
      omega
theorem takeU_putU (m : Nat) (r : List UInt8) (h : m < 18446744073709551616) : takeU (putU m ++ r) = (m, (putU m).length, 0) := by
  unfold takeU
  rw [takeGo_putU r m 0 0 (by omega) (by simpa using h) (by omega)]
  simp
theorem takeT_putT (s r : List UInt8) (h : s.length < 18446744073709551616) : takeT (putT s ++ r) (s.length : Int) = (s, (putT s).length, 0) := by
  have hu := takeU_putU s.length (s ++ r) h
  have e : putT s ++ r = putU s.length ++ (s ++ r) := by rw [putT, List.append_assoc]
  rw [e, takeT_text hu (by simp) (by simp)]
  simp [putT]

theorem big_step (n k : Nat) : 256 * (n / 256 ^ (k + 1)) + n / 256 ^ k % 256 = n / 256 ^ k := by
  rw [Nat.pow_succ, ← Nat.div_div_eq_div_mul]; exact Nat.div_add_mod _ _
theorem wordGo_big (n : Nat) (h : n < 18446744073709551616) : wordGo (big n) = n := by
  have e : big n = [bigByte n 0, bigByte n 1, bigByte n 2, bigByte n 3, bigByte n 4, bigByte n 5, bigByte n 6, bigByte n 7] := by simp [big, List.range, List.range.loop]
  have hb : ∀ j, (bigByte n j).toNat = n / 256 ^ (7 - j) % 256 := fun j => ofNat_low (Nat.mod_lt _ (by omega))
  have h7 : 256 * 0 + n / 256 ^ 7 % 256 = n / 256 ^ 7 := by
    have : n / 256 ^ 7 < 256 := Nat.div_lt_of_lt_mul (by have : (256 : Nat) ^ 7 * 256 = 18446744073709551616 := by decide
                                                         omega)
    rw [Nat.mod_eq_of_lt this]; simp
  rw [e]
  unfold wordGo
  simp only [List.foldl_cons, List.foldl_nil, hb]
  rw [show 7 - 0 = 7 from rfl, show 7 - 1 = 6 from rfl, show 7 - 2 = 5 from rfl, show 7 - 3 = 4 from rfl, show 7 - 4 = 3 from rfl, show 7 - 5 = 2 from rfl, show 7 - 6 = 1 from rfl, show 7 - 7 = 0 from rfl]
  rw [h7, big_step n 6, big_step n 5, big_step n 4, big_step n 3, big_step n 2, big_step n 1, big_step n 0]
  simp
theorem big_len (n : Nat) : (big n).length = 8 := by simp [big]
theorem keyOf_turn (m : Int) (h1 : -9223372036854775808 ≤ m) (h2 : m ≤ 9223372036854775807) : keyOf (turn m) = m := by
  have ht := turn_lt m h2
  have h := u64_xor_nat (turn m) 9223372036854775808 ht (by omega)
  unfold keyOf
  rw [show (9223372036854775808 : Int) = ((9223372036854775808 : Nat) : Int) from rfl, h, xor_top _ ht]
  unfold turn at *
  by_cases hm : 0 ≤ m
  · rw [if_neg (by omega), IntWalk.wrap64_in _ ⟨by omega, by omega⟩]; omega
  · rw [if_pos (by omega)]
    have : (((m + 9223372036854775808).toNat + 9223372036854775808 : Nat) : Int) = m + 18446744073709551616 := by omega
    rw [this]
    unfold wrap64
    omega
theorem takeKI_big (m : Int) (r : List UInt8) (h1 : -9223372036854775808 ≤ m) (h2 : m ≤ 9223372036854775807) : takeKI (big (turn m) ++ r) = (m, 8, 0) := by
  rw [takeKI_eight (by rw [List.length_append, big_len]; omega), List.take_left' (big_len _), wordGo_big _ (turn_lt m h2), keyOf_turn m h1 h2]

theorem takeKGo_key (r : List UInt8) : ∀ (s acc : List UInt8) (k : Nat), takeKGo (keyGo s ++ [0, 1] ++ r) acc k = (acc ++ s, k + (keyGo s).length + 2, 0)
  | [], acc, k => by
    show takeKGo (0 :: 1 :: r) acc k = _
    rw [tk_end rfl rfl]; simp [keyGo]
  | c :: s, acc, k => by
    by_cases h : c.toNat = 0
    · have hc : c = 0 := UInt8.toNat_inj.1 (by simpa using h)
      rw [key_zero h]
      show takeKGo (c :: 255 :: (keyGo s ++ [0, 1] ++ r)) acc k = _
      rw [tk_zero h rfl, takeKGo_key r s]
      subst hc
      simp; omega
    · rw [key_plain h]
      show takeKGo (c :: (keyGo s ++ [0, 1] ++ r)) acc k = _
      rw [tk_plain h, takeKGo_key r s]
      simp; omega
theorem takeK_keyT (s r : List UInt8) : takeK (keyT s ++ r) = (s, (keyT s).length, 0) := by
  unfold takeK keyT
  rw [takeKGo_key]
  simp

/-! order -/
theorem foldl_ge (l : List UInt8) : ∀ a : Nat, a * 256 ^ l.length ≤ l.foldl (fun n c => 256 * n + c.toNat) a := by
  induction l with
  | nil => intro a; simp
  | cons c l ih =>
    intro a
    have h := ih (256 * a + c.toNat)
    have h2 : (256 * a) * 256 ^ l.length ≤ (256 * a + c.toNat) * 256 ^ l.length := Nat.mul_le_mul_right _ (by omega)
    rw [List.foldl_cons, List.length_cons, Nat.pow_succ]
    have h3 : a * (256 ^ l.length * 256) = (256 * a) * 256 ^ l.length := by rw [Nat.mul_comm 256 a, Nat.mul_assoc, Nat.mul_comm 256]
    omega
theorem bl_word : ∀ (p q : List UInt8) (a : Nat), p.length = q.length → bytesLess p q = decide (p.foldl (fun n c => 256 * n + c.toNat) a < q.foldl (fun n c => 256 * n + c.toNat) a)
  | [], [], a, _ => by simp [bl_nil_r]
  | c :: p, d :: q, a, h => by
    have hl : p.length = q.length := by simpa using h
    rw [bl_cons, List.foldl_cons, List.foldl_cons]
    rcases Nat.lt_trichotomy c.toNat d.toNat with h1 | h1 | h1
    · have e1 : decide (c.toNat < d.toNat) = true := by simpa using h1
      have hlt := foldl_lt p (256 * a + c.toNat)
      have hge := foldl_ge q (256 * a + d.toNat)
      rw [← hl] at hge
      have hm : (256 * a + c.toNat + 1) * 256 ^ p.length ≤ (256 * a + d.toNat) * 256 ^ p.length := Nat.mul_le_mul_right _ (by omega)
      rw [e1, Bool.true_or]
      exact (decide_eq_true (by omega)).symm
    · have e1 : decide (c.toNat < d.toNat) = false := by simp; omega
      have e2 : decide (c.toNat = d.toNat) = true := by simpa using h1
      rw [e1, e2, h1, bl_word p q (256 * a + d.toNat) hl]; simp
    · have e1 : decide (c.toNat < d.toNat) = false := by simp; omega
      have e2 : decide (c.toNat = d.toNat) = false := by simp; omega
      have hlt := foldl_lt q (256 * a + d.toNat)
      have hge := foldl_ge p (256 * a + c.toNat)
      rw [hl] at hge
      have hm : (256 * a + d.toNat + 1) * 256 ^ q.length ≤ (256 * a + c.toNat) * 256 ^ q.length := Nat.mul_le_mul_right _ (by omega)
      rw [e1, e2, Bool.false_or, Bool.false_and]
      exact (decide_eq_false (by omega)).symm
theorem bl_append : ∀ (p q x y : List UInt8), p.length = q.length → p ≠ q → bytesLess (p ++ x) (q ++ y) = bytesLess p q
  | [], [], _, _, _, h => absurd rfl h
  | c :: p, d :: q, x, y, h, hne => by
    rw [List.cons_append, List.cons_append, bl_cons, bl_cons]
    by_cases e : c.toNat = d.toNat
    · have hc : c = d := UInt8.toNat_inj.1 e
      rw [bl_append p q x y (by simpa using h) (by rintro rfl; exact hne (by rw [hc]))]
    · have e2 : decide (c.toNat = d.toNat) = false := by simpa using e
      rw [e2]; simp
theorem big_rises (m m' : Int) (x y : List UInt8) (h1 : -9223372036854775808 ≤ m) (h2 : m ≤ 9223372036854775807) (h1' : -9223372036854775808 ≤ m') (h2' : m' ≤ 9223372036854775807) (hne : m ≠ m') :
    bytesLess (big (turn m) ++ x) (big (turn m') ++ y) = decide (m < m') := by
  have t1 := turn_lt m h2
  have t2 := turn_lt m' h2'
  have w1 := wordGo_big _ t1
  have w2 := wordGo_big _ t2
  have hb : big (turn m) ≠ big (turn m') := by
    intro e
    rw [e, w2] at w1
    unfold turn at w1; omega
  rw [bl_append _ _ x y (by rw [big_len, big_len]) hb, bl_word _ _ 0 (by rw [big_len, big_len])]
  have e1 : (big (turn m)).foldl (fun n c => 256 * n + c.toNat) 0 = turn m := w1
  have e2 : (big (turn m')).foldl (fun n c => 256 * n + c.toNat) 0 = turn m' := w2
  rw [e1, e2, decide_eq_decide]
  unfold turn; omega

/-- two keys part before either ends, and as their texts do -/
theorem key_rises (x y : List UInt8) : ∀ (s t : List UInt8), s ≠ t → bytesLess (keyT s ++ x) (keyT t ++ y) = bytesLess s t ∧ common (keyT s) (keyT t) < (keyT s).length ∧ common (keyT s) (keyT t) < (keyT t).length
  | [], [], h => absurd rfl h
  | [], d :: t, _ => by
    unfold keyT
    by_cases h : d.toNat = 0
    · have hd : d = 0 := UInt8.toNat_inj.1 (by simpa using h)
      subst hd
      rw [key_zero rfl]
      refine ⟨rfl, ?_, ?_⟩
      · simp [keyGo, common]
      · simp [keyGo, common]
    · rw [key_plain h]
      have e1 : ¬ (0 : UInt8).toNat = d.toNat := by simp; omega
      refine ⟨?_, ?_, ?_⟩
      · show bytesLess (0 :: ([1] ++ x)) (d :: (keyGo t ++ [0, 1] ++ y)) = true
        rw [bl_cons]
        have : decide ((0 : UInt8).toNat < d.toNat) = true := by simp; omega
        rw [this]; rfl
      · show common (0 :: [1]) (d :: (keyGo t ++ [0, 1])) < _
        rw [common_ne e1]; simp [keyGo]
      · show common (0 :: [1]) (d :: (keyGo t ++ [0, 1])) < _
        rw [common_ne e1]; simp
  | c :: s, [], _ => by
    unfold keyT
    by_cases h : c.toNat = 0
    · have hd : c = 0 := UInt8.toNat_inj.1 (by simpa using h)
      subst hd
      rw [key_zero rfl]
      refine ⟨rfl, ?_, ?_⟩
      · simp [keyGo, common]
      · simp [keyGo, common]
    · rw [key_plain h]
      have e1 : ¬ c.toNat = (0 : UInt8).toNat := by simp; omega
      refine ⟨?_, ?_, ?_⟩
      · show bytesLess (c :: (keyGo s ++ [0, 1] ++ x)) (0 :: ([1] ++ y)) = false
        rw [bl_cons]
        have e2 : decide (c.toNat < (0 : UInt8).toNat) = false := by simp
        have e3 : decide (c.toNat = (0 : UInt8).toNat) = false := by simpa using e1
        rw [e2, e3]; rfl
      · show common (c :: (keyGo s ++ [0, 1])) (0 :: [1]) < _
        rw [common_ne e1]; simp
      · show common (c :: (keyGo s ++ [0, 1])) (0 :: [1]) < _
        rw [common_ne e1]; simp [keyGo]
  | c :: s, d :: t, hne => by
    unfold keyT
    by_cases e : c.toNat = d.toNat
    · have hcd : c = d := UInt8.toNat_inj.1 e
      subst hcd
      have ih := key_rises x y s t (by rintro rfl; exact hne rfl)
      unfold keyT at ih
      have hb : bytesLess (c :: s) (c :: t) = bytesLess s t := by rw [bl_cons]; simp
      rw [hb]
      by_cases h : c.toNat = 0
      · rw [key_zero h, key_zero h]
        refine ⟨?_, ?_, ?_⟩
        · show bytesLess (c :: 255 :: (keyGo s ++ [0, 1] ++ x)) (c :: 255 :: (keyGo t ++ [0, 1] ++ y)) = _
          rw [bl_cons, bl_cons, ih.1]; simp
        · show common (c :: 255 :: (keyGo s ++ [0, 1])) (c :: 255 :: (keyGo t ++ [0, 1])) < (c :: 255 :: (keyGo s ++ [0, 1])).length
          rw [common_eq rfl, common_eq rfl]; simp only [List.length_cons]; have := ih.2.1; omega
        · show common (c :: 255 :: (keyGo s ++ [0, 1])) (c :: 255 :: (keyGo t ++ [0, 1])) < (c :: 255 :: (keyGo t ++ [0, 1])).length
          rw [common_eq rfl, common_eq rfl]; simp only [List.length_cons]; have := ih.2.2; omega
      · rw [key_plain h, key_plain h]
        refine ⟨?_, ?_, ?_⟩
        · show bytesLess (c :: (keyGo s ++ [0, 1] ++ x)) (c :: (keyGo t ++ [0, 1] ++ y)) = _
          rw [bl_cons, ih.1]; simp
        · show common (c :: (keyGo s ++ [0, 1])) (c :: (keyGo t ++ [0, 1])) < (c :: (keyGo s ++ [0, 1])).length
          rw [common_eq rfl]; simp only [List.length_cons]; have := ih.2.1; omega
        · show common (c :: (keyGo s ++ [0, 1])) (c :: (keyGo t ++ [0, 1])) < (c :: (keyGo t ++ [0, 1])).length
          rw [common_eq rfl]; simp only [List.length_cons]; have := ih.2.2; omega
    · have e2 : decide (c.toNat = d.toNat) = false := by simpa using e
      have key_head : ∀ (a : UInt8) (l : List UInt8), ∃ r, keyGo (a :: l) = a :: r := by
        intro a l
        by_cases h : a.toNat = 0
        · exact ⟨_, key_zero h⟩
        · exact ⟨_, key_plain h⟩
      obtain ⟨r1, h1⟩ := key_head c s
      obtain ⟨r2, h2⟩ := key_head d t
      rw [h1, h2]
      refine ⟨?_, ?_, ?_⟩
      · show bytesLess (c :: (r1 ++ [0, 1] ++ x)) (d :: (r2 ++ [0, 1] ++ y)) = _
        rw [bl_cons, bl_cons, e2]; simp
      · show common (c :: (r1 ++ [0, 1])) (d :: (r2 ++ [0, 1])) < _
        rw [common_ne e]; simp
      · show common (c :: (r1 ++ [0, 1])) (d :: (r2 ++ [0, 1])) < _
        rw [common_ne e]; simp
end Cd
end Go.Proofs.Ytpldfdlnhgmnaaa

/-
  Plain mathematics of P2.5: what was put is taken; no beginning of it is a frame; one byte turned is seen; frames one behind the other.
-/
namespace Go.Proofs.Ytpldfdlnhgmnaaa
namespace Fr
open Go.RowKit

/-! what was put is taken -/
theorem takeT_putT' (s r : List UInt8) (m : Int) (h : s.length < 18446744073709551616) (hm : s.length ≤ m.toNat) : Cd.takeT (Cd.putT s ++ r) m = (s, (Cd.putT s).length, 0) := by
  have hu := Cd.takeU_putU s.length (s ++ r) h
  have e : Cd.putT s ++ r = Cd.putU s.length ++ (s ++ r) := by rw [Cd.putT, List.append_assoc]
  rw [e, Cd.takeT_text hu hm (by simp)]
  simp [Cd.putT]
theorem lit4 (n : Nat) (x : List UInt8) : (lit n ++ x).take 4 = lit n := by rw [List.take_left' (lit_len n)]
theorem lit4d (n : Nat) (x : List UInt8) : (lit n ++ x).drop 4 = x := by rw [List.drop_left' (lit_len n)]
theorem lit5d (n : Nat) (c : UInt8) (x : List UInt8) : (lit n ++ c :: x).drop 5 = x := by
  have : (lit n ++ c :: x).drop 5 = ((lit n ++ c :: x).drop 4).drop 1 := by rw [List.drop_drop]
  rw [this, lit4d]; rfl
theorem lit4g (n : Nat) (c : UInt8) (x : List UInt8) : (lit n ++ c :: x).getD 4 0 = c := by
  rw [List.getD_eq_getElem?_getD, List.getElem?_append_right (by rw [lit_len]; omega), lit_len]; rfl
theorem litlen (n : Nat) (c : UInt8) (x : List UInt8) : (lit n ++ c :: x).length = 5 + x.length := by rw [List.length_append, lit_len, List.length_cons]; omega
/-- whatever stands in the sum's place: the frame is there just where the sum is the right one -/
theorem take_form {n : Nat} {c : UInt8} {l r : List UInt8} (hc : ¬ c.toNat = 0) (hl : l.length ≤ 262144) :
    take (lit n ++ c :: (Cd.putT l ++ r)) = if lit (sum (c :: Cd.putT l)) = lit n then ((c, l), 5 + (Cd.putT l).length, 0) else ((0, []), 0, 3) := by
  have ht := takeT_putT' l r 262144 (by omega) (by simpa using hl)
  have h5 : 5 ≤ (lit n ++ c :: (Cd.putT l ++ r)).length := by rw [litlen]; omega
  have h0 : ¬ ((lit n ++ c :: (Cd.putT l ++ r)).getD 4 0).toNat = 0 := by rw [lit4g]; exact hc
  have hr : ((lit n ++ c :: (Cd.putT l ++ r)).drop 4).take ((Cd.putT l).length + 1) = c :: Cd.putT l := by rw [lit4d, List.take_succ_cons, List.take_left' rfl]
  by_cases hs : lit (sum (c :: Cd.putT l)) = lit n
  · rw [take_ok (t := l) (n := (Cd.putT l).length) h5 h0 (by rw [lit5d]; exact ht) (by rw [hr, lit4]; exact hs), if_pos hs, lit4g]
  · rw [take_bad (t := l) (n := (Cd.putT l).length) h5 h0 (by rw [lit5d]; exact ht) (by rw [hr, lit4]; exact hs), if_neg hs]
theorem take_put {c : UInt8} {l r : List UInt8} (hc : ¬ c.toNat = 0) (hl : l.length ≤ 262144) :
    take ((put c l).1 ++ r) = ((c, l), (put c l).1.length, 0) := by
  have e : (lit (sum (c :: Cd.putT l)) ++ c :: Cd.putT l) ++ r = lit (sum (c :: Cd.putT l)) ++ c :: (Cd.putT l ++ r) := by simp
  rw [put_ok hc hl]
  show take ((lit (sum (c :: Cd.putT l)) ++ c :: Cd.putT l) ++ r) = _
  rw [e, take_form hc hl, if_pos rfl]
  show _ = ((c, l), (lit (sum (c :: Cd.putT l)) ++ c :: Cd.putT l).length, 0)
  rw [litlen]

/-! no beginning is a frame -/
theorem takeGo_cut (m : Nat) : ∀ (i acc k : Nat), i ≤ 9 → m * 128 ^ i < 18446744073709551616 → (0 < i → 1 ≤ m) → k < (Cd.putU m).length → Cd.takeGo ((Cd.putU m).take k) i acc = (0, 0, 2) := by
  induction m using Nat.strongRecOn with
  | ind m ih =>
    intro i acc k hi hm h1 hk
    cases k with
    | zero => simp [Cd.takeGo]
    | succ k =>
      have h9 : (128 : Nat) ^ 9 = 9223372036854775808 := by decide
      by_cases h : m < 128
      · rw [Cd.putU_last h] at hk; simp at hk
      · have e := Cd.ofNat_low (m := m % 128 + 128) (by omega)
        have hi8 : i ≠ 9 := by
          rintro rfl
          have : 128 * 128 ^ 9 ≤ m * 128 ^ 9 := Nat.mul_le_mul_right _ (by omega)
          omega
        rw [Cd.putU_more (by omega), List.length_cons] at hk
        rw [Cd.putU_more (by omega), List.take_succ_cons, Cd.go_more (by rw [e]; omega) (by rw [e]; omega)]
        have hs := Cd.put_step (m := m) (k := i) (Nat.le_refl _)
        exact ih (m / 128) (by omega) (i + 1) _ k (by omega) (by omega) (by omega) (by omega)
theorem takeU_cut (m k : Nat) (h : m < 18446744073709551616) (hk : k < (Cd.putU m).length) : Cd.takeU ((Cd.putU m).take k) = (0, 0, 2) :=
  takeGo_cut m 0 0 k (by omega) (by simpa using h) (by omega) hk
theorem takeT_cut (l : List UInt8) (k : Nat) (hl : l.length ≤ 262144) (hk : k < (Cd.putT l).length) : Cd.takeT ((Cd.putT l).take k) 262144 = ([], 0, 2) := by
  unfold Cd.putT at hk ⊢
  rw [List.length_append] at hk
  by_cases h : k < (Cd.putU l.length).length
  · rw [List.take_append_of_le_length (by omega)]
    exact Cd.takeT_err (takeU_cut _ _ (by omega) h) (by omega)
  · rw [List.take_append, List.take_of_length_le (by omega)]
    have hu := Cd.takeU_putU l.length (l.take (k - (Cd.putU l.length).length)) (by omega)
    exact Cd.takeT_more hu (by simpa using hl) (by rw [List.length_append, List.length_take]; omega)
theorem take_cut {c : UInt8} {l : List UInt8} (hc : ¬ c.toNat = 0) (hl : l.length ≤ 262144) (k : Nat) (hk : k < (put c l).1.length) : (take ((put c l).1.take k)).2.2 = 2 := by
  rw [put_ok hc hl] at hk ⊢
  simp only at hk ⊢
  rw [litlen] at hk
  by_cases h5 : k < 5
  · rw [take_few (by rw [List.length_take]; omega)]
  · have e : (lit (sum (c :: Cd.putT l)) ++ c :: Cd.putT l).take k = lit (sum (c :: Cd.putT l)) ++ c :: (Cd.putT l).take (k - 5) := by
      rw [List.take_append, List.take_of_length_le (by rw [lit_len]; omega), lit_len, show k - 4 = (k - 5) + 1 from by omega, List.take_succ_cons]
    rw [e, take_err (t := []) (n := 0) (e := 2) (by rw [litlen]; omega) (by rw [lit4g]; exact hc) (by rw [lit5d]; exact takeT_cut l (k - 5) hl (by omega)) (by omega)]

/-! one byte turned is seen -/
theorem xor_cancel {a b p : Nat} (h : a ^^^ p = b ^^^ p) : a = b := by
  have h2 := congrArg (· ^^^ p) h
  simpa [Nat.xor_assoc] using h2
theorem xor_cancel_l {a b p : Nat} (h : p ^^^ a = p ^^^ b) : a = b := xor_cancel (p := p) (by rw [Nat.xor_comm a p, Nat.xor_comm b p]; exact h)
theorem step_mixed {a b : Nat} (ha : a < 4294967296) (hb : b < 4294967296) (h : a / 2 ^^^ 3988292384 = b / 2) : False := by
  have h2 : 3988292384 = a / 2 ^^^ b / 2 := by rw [← h, ← Nat.xor_assoc, Nat.xor_self, Nat.zero_xor]
  have h3 : a / 2 ^^^ b / 2 < 2 ^ 31 := Nat.xor_lt_two_pow (by omega) (by omega)
  omega
theorem step_inj {a b : Nat} (ha : a < 4294967296) (hb : b < 4294967296) (h : step a = step b) : a = b := by
  by_cases oa : a % 2 = 1
  · by_cases ob : b % 2 = 1
    · rw [step_odd oa, step_odd ob] at h
      have := xor_cancel h; omega
    · rw [step_odd oa, step_even ob] at h
      exact (step_mixed ha hb h).elim
  · by_cases ob : b % 2 = 1
    · rw [step_even oa, step_odd ob] at h
      exact (step_mixed hb ha h.symm).elim
    · rw [step_even oa, step_even ob] at h; omega
theorem steps_inj {a b : Nat} (ha : a < 4294967296) (hb : b < 4294967296) : ∀ k, steps k a = steps k b → a = b
  | 0, h => h
  | k + 1, h => steps_inj ha hb k (step_inj (steps_lt ha k) (steps_lt hb k) h)
theorem byte_inj {a b : Nat} (ha : a < 4294967296) (hb : b < 4294967296) (c : UInt8) (h : byte a c = byte b c) : a = b := by
  have hc := c.toNat_lt
  exact xor_cancel (steps_inj (xor_lt32 ha (by omega)) (xor_lt32 hb (by omega)) 8 h)
theorem byte_inj_c {a : Nat} (ha : a < 4294967296) {c d : UInt8} (h : byte a c = byte a d) : c = d := by
  have hc := c.toNat_lt
  have hd := d.toNat_lt
  exact UInt8.toNat_inj.1 (xor_cancel_l (steps_inj (xor_lt32 ha (by omega)) (xor_lt32 ha (by omega)) 8 h))
theorem run_inj (l : List UInt8) : ∀ {a b : Nat}, a < 4294967296 → b < 4294967296 → run a l = run b l → a = b := by
  induction l with
  | nil => intro a b _ _ h; exact h
  | cons c l ih => intro a b ha hb h; exact byte_inj ha hb c (ih (byte_lt ha c) (byte_lt hb c) h)
theorem sum_turned {a b : List UInt8} {c d : UInt8} (h : c ≠ d) : sum (a ++ c :: b) ≠ sum (a ++ d :: b) := by
  intro e
  unfold sum at e
  have e2 := xor_cancel_l e
  rw [run_app, run_app] at e2
  have hr := run_lt a (n := 4294967295) (by omega)
  exact h (byte_inj_c hr (run_inj b (byte_lt hr c) (byte_lt hr d) e2))

/-- whatever four bytes stand in the sum's place -/
theorem take_form4 {h : List UInt8} {c : UInt8} {l r : List UInt8} (hh : h.length = 4) (hc : ¬ c.toNat = 0) (hl : l.length ≤ 262144) :
    take (h ++ c :: (Cd.putT l ++ r)) = if lit (sum (c :: Cd.putT l)) = h then ((c, l), 5 + (Cd.putT l).length, 0) else ((0, []), 0, 3) := by
  have ht := takeT_putT' l r 262144 (by omega) (by simpa using hl)
  have hlen : (h ++ c :: (Cd.putT l ++ r)).length = 5 + (Cd.putT l ++ r).length := by rw [List.length_append, hh, List.length_cons]; omega
  have h4 : (h ++ c :: (Cd.putT l ++ r)).take 4 = h := List.take_left' hh
  have h4d : (h ++ c :: (Cd.putT l ++ r)).drop 4 = c :: (Cd.putT l ++ r) := List.drop_left' hh
  have h5d : (h ++ c :: (Cd.putT l ++ r)).drop 5 = Cd.putT l ++ r := by
    have : (h ++ c :: (Cd.putT l ++ r)).drop 5 = ((h ++ c :: (Cd.putT l ++ r)).drop 4).drop 1 := by rw [List.drop_drop]
    rw [this, h4d]; rfl
  have hg : (h ++ c :: (Cd.putT l ++ r)).getD 4 0 = c := by
    rw [List.getD_eq_getElem?_getD, List.getElem?_append_right (by omega), hh]; rfl
  have h5 : 5 ≤ (h ++ c :: (Cd.putT l ++ r)).length := by omega
  have h0 : ¬ ((h ++ c :: (Cd.putT l ++ r)).getD 4 0).toNat = 0 := by rw [hg]; exact hc
  have hr : ((h ++ c :: (Cd.putT l ++ r)).drop 4).take ((Cd.putT l).length + 1) = c :: Cd.putT l := by rw [h4d, List.take_succ_cons, List.take_left' rfl]
  by_cases hs : lit (sum (c :: Cd.putT l)) = h
  · rw [take_ok (t := l) (n := (Cd.putT l).length) h5 h0 (by rw [h5d]; exact ht) (by rw [hr, h4]; exact hs), if_pos hs, hg]
  · rw [take_bad (t := l) (n := (Cd.putT l).length) h5 h0 (by rw [h5d]; exact ht) (by rw [hr, h4]; exact hs), if_neg hs]
/-- a frame of which one byte, in its sum, its kind or its load, is another one is refused -/
theorem take_turned {c : UInt8} {l : List UInt8} (hc : ¬ c.toNat = 0) (hl : l.length ≤ 262144) (p : Nat) (x : UInt8) (hp : p < (put c l).1.length) (hpl : p ≤ 4 ∨ (put c l).1.length - l.length ≤ p) (hx : x ≠ (put c l).1.getD p 0) :
    (take ((put c l).1.set p x)).2.2 = 3 := by
  rw [put_ok hc hl] at hp hpl hx ⊢
  simp only at hp hpl hx ⊢
  rw [litlen] at hp hpl
  rcases Nat.lt_trichotomy p 4 with h | h | h
  · have e : (lit (sum (c :: Cd.putT l)) ++ c :: Cd.putT l).set p x = (lit (sum (c :: Cd.putT l))).set p x ++ c :: (Cd.putT l ++ []) := by
      rw [List.set_append_left _ _ (by rw [lit_len]; exact h), List.append_nil]
    rw [e, take_form4 (by rw [List.length_set, lit_len]) hc hl, if_neg]
    intro he
    apply hx
    have := congrArg (fun z => z.getD p 0) he
    simp only [List.getD_eq_getElem?_getD] at this ⊢
    rw [List.getElem?_set_self (by rw [lit_len]; exact h)] at this
    rw [List.getElem?_append_left (by rw [lit_len]; exact h), this]; rfl
  · subst h
    have e : (lit (sum (c :: Cd.putT l)) ++ c :: Cd.putT l).set 4 x = lit (sum (c :: Cd.putT l)) ++ x :: (Cd.putT l ++ []) := by
      rw [List.set_append_right _ _ (by rw [lit_len]; omega), lit_len, List.append_nil]; rfl
    rw [lit4g] at hx
    rw [e]
    by_cases h0 : x.toNat = 0
    · rw [take_zero (by rw [litlen]; omega) (by rw [lit4g]; exact h0)]
    · rw [take_form h0 hl, if_neg]
      intro he
      have := lit_inj (sum_lt _) (sum_lt _) he
      exact sum_turned (a := []) (b := Cd.putT l) hx this
  · obtain ⟨q, hq⟩ : ∃ q, q = p - 5 - (Cd.putU l.length).length := ⟨_, rfl⟩
    have hpt : (Cd.putT l).length = (Cd.putU l.length).length + l.length := by rw [Cd.putT, List.length_append]
    have hql : q < l.length := by omega
    have hpq : p = 4 + 1 + ((Cd.putU l.length).length + q) := by omega
    have hlen : (l.set q x).length = l.length := List.length_set
    have e : (lit (sum (c :: Cd.putT l)) ++ c :: Cd.putT l).set p x = lit (sum (c :: Cd.putT l)) ++ c :: (Cd.putT (l.set q x) ++ []) := by
      rw [List.set_append_right _ _ (by rw [lit_len]; omega), lit_len, show p - 4 = ((Cd.putU l.length).length + q) + 1 from by omega, List.set_cons_succ, List.append_nil]
      unfold Cd.putT
      rw [hlen, List.set_append_right _ _ (by omega), show (Cd.putU l.length).length + q - (Cd.putU l.length).length = q from by omega]
    have hg : (lit (sum (c :: Cd.putT l)) ++ c :: Cd.putT l).getD p 0 = l[q] := by
      rw [List.getD_eq_getElem?_getD, List.getElem?_append_right (by rw [lit_len]; omega), lit_len, show p - 4 = ((Cd.putU l.length).length + q) + 1 from by omega, List.getElem?_cons_succ]
      unfold Cd.putT
      rw [List.getElem?_append_right (by omega), show (Cd.putU l.length).length + q - (Cd.putU l.length).length = q from by omega, List.getElem?_eq_getElem hql]; rfl
    rw [hg] at hx
    rw [e, take_form hc (by rw [hlen]; exact hl), if_neg]
    intro he
    have hs := lit_inj (sum_lt _) (sum_lt _) he
    have e1 : l.set q x = l.take q ++ x :: l.drop (q + 1) := List.set_eq_take_append_cons_drop ▸ (by rw [if_pos hql])
    have e2 : l = l.take q ++ l[q] :: l.drop (q + 1) := by rw [← List.drop_eq_getElem_cons hql, List.take_append_drop]
    have f1 : c :: Cd.putT (l.set q x) = (c :: (Cd.putU l.length ++ l.take q)) ++ x :: l.drop (q + 1) := by unfold Cd.putT; rw [hlen, e1]; simp
    have f2 : c :: Cd.putT l = (c :: (Cd.putU l.length ++ l.take q)) ++ l[q] :: l.drop (q + 1) := by
      unfold Cd.putT
      conv => lhs; rw [e2]
      simp
    rw [f1, f2] at hs
    exact sum_turned hx hs

/-! frames one behind the other -/
theorem allGo_ge (l : List UInt8) (p : Nat) : p ≤ (allGo l p).2 := by
  by_cases h : p < l.length ∧ (take (l.drop p)).2.2 = 0 ∧ 0 < (take (l.drop p)).2.1
  · rw [allGo_more h]
    have := allGo_ge l (p + (take (l.drop p)).2.1)
    simp only; omega
  · rw [allGo_stop h]; exact Nat.le_refl _
termination_by l.length - p
theorem allGo_put {pre r : List UInt8} {c : UInt8} {l : List UInt8} (hc : ¬ c.toNat = 0) (hl : l.length ≤ 262144) :
    allGo (pre ++ ((put c l).1 ++ r)) pre.length = ((pre.length, (c, l)) :: (allGo (pre ++ ((put c l).1 ++ r)) (pre.length + (put c l).1.length)).1, (allGo (pre ++ ((put c l).1 ++ r)) (pre.length + (put c l).1.length)).2) := by
  have ht : take ((pre ++ ((put c l).1 ++ r)).drop pre.length) = ((c, l), (put c l).1.length, 0) := by rw [List.drop_left' rfl]; exact take_put hc hl
  have hp : 5 ≤ (put c l).1.length := by rw [put_ok hc hl]; simp only; rw [litlen]; omega
  have := allGo_more (l := pre ++ ((put c l).1 ++ r)) (p := pre.length) (by rw [ht]; exact ⟨by rw [List.length_append, List.length_append]; omega, rfl, by show 0 < (put c l).1.length; omega⟩)
  rw [ht] at this
  exact this
end Fr
end Go.Proofs.Ytpldfdlnhgmnaaa

/-
  Plain mathematics of P4.1: a root's bytes tell the root.
-/
namespace Go.Proofs.Ytpldfdlnhgmnaaa
namespace Fi

theorem putU_inj {a b : Nat} {x y : Dat} (ha : a < 18446744073709551616) (hb : b < 18446744073709551616) (h : Cd.putU a ++ x = Cd.putU b ++ y) : a = b ∧ x = y := by
  have h1 := Cd.takeU_putU a x ha
  rw [h, Cd.takeU_putU b y hb] at h1
  obtain rfl : b = a := congrArg (·.1) h1
  exact ⟨rfl, List.append_cancel_left h⟩
theorem putT_inj {s t x y : Dat} (ha : s.length < 18446744073709551616) (hb : t.length < 18446744073709551616) (h : Cd.putT s ++ x = Cd.putT t ++ y) : s = t ∧ x = y := by
  unfold Cd.putT at h
  rw [List.append_assoc, List.append_assoc] at h
  obtain ⟨h1, h2⟩ := putU_inj ha hb h
  exact List.append_inj h2 h1
/-- a run that may be -/
def RunOk (p : Int × Nat) : Prop := 0 ≤ p.1 ∧ p.1 < 18446744073709551616 ∧ p.2 < 18446744073709551616
theorem runB_inj {p q : Int × Nat} {x y : Dat} (hp : RunOk p) (hq : RunOk q) (h : runB p ++ x = runB q ++ y) : p = q ∧ x = y := by
  unfold runB at h
  rw [List.append_assoc, List.append_assoc] at h
  obtain ⟨h1, h2⟩ := putU_inj (by have := hp.2.1; omega) (by have := hq.2.1; omega) h
  obtain ⟨h3, h4⟩ := putU_inj hp.2.2 hq.2.2 h2
  have := hp.1
  have := hq.1
  exact ⟨Prod.ext (by omega) h3, h4⟩
theorem runsB_inj : ∀ {L L' : List (Int × Nat)} {x y : Dat}, L.length = L'.length → (∀ p ∈ L, RunOk p) → (∀ p ∈ L', RunOk p) → L.flatMap runB ++ x = L'.flatMap runB ++ y → L = L' ∧ x = y
  | [], [], x, y, _, _, _, h => ⟨rfl, by simpa using h⟩
  | [], q :: r, _, _, hl, _, _, _ => by simp at hl
  | p :: r, [], _, _, hl, _, _, _ => by simp at hl
  | p :: r, q :: r', x, y, hl, hp, hq, h => by
    rw [List.flatMap_cons, List.flatMap_cons, List.append_assoc, List.append_assoc] at h
    obtain ⟨h1, h2⟩ := runB_inj (hp p (List.mem_cons_self ..)) (hq q (List.mem_cons_self ..)) h
    obtain ⟨h3, h4⟩ := runsB_inj (by simpa using hl) (fun z hz => hp z (List.mem_cons_of_mem _ hz)) (fun z hz => hq z (List.mem_cons_of_mem _ hz)) h2
    exact ⟨by rw [h1, h3], h4⟩
theorem runs_ok (l : List Int) (h : ∀ b ∈ l, 0 ≤ b ∧ b < 18446744073709551616) (hl : l.length < 18446744073709551615) : ∀ p ∈ runs l, RunOk p := by
  induction hn : l.length using Nat.strongRecOn generalizing l with
  | _ n ih =>
    match l, hn with
    | [], _ => intro p hp; rw [runs] at hp; cases hp
    | y :: r, hn =>
      rw [runs_cons]
      intro p hp
      rcases List.mem_cons.1 hp with rfl | hp
      · have := runLen_le r y
        have h0 := h y (List.mem_cons_self ..)
        simp at hl
        exact ⟨h0.1, h0.2, by simp only; omega⟩
      · simp at hn hl
        exact ih (r.drop (runLen y r)).length (by simp; omega) _ (fun b hb => h b (List.mem_cons_of_mem _ (List.mem_of_mem_drop hb))) (by simp; omega) rfl p hp
/-- a file that may be in a root -/
structure FOk (f : File) : Prop where
  name : f.name.length ≤ 32
  size : 0 ≤ f.size ∧ f.size < 18446744073709551616
  blocks : ∀ b ∈ f.blocks, 0 ≤ b ∧ b < 18446744073709551616
  many : f.blocks.length < 18446744073709551615
theorem fileBytes_inj {f g : File} {x y : Dat} (hf : FOk f) (hg : FOk g) (h : fileBytes f ++ x = fileBytes g ++ y) : f = g ∧ x = y := by
  unfold fileBytes runBytes at h
  simp only [List.append_assoc] at h
  obtain ⟨h1, h2⟩ := putT_inj (by have := hf.name; omega) (by have := hg.name; omega) h
  obtain ⟨h3, h4⟩ := putU_inj (by have := hf.size; omega) (by have := hg.size; omega) h2
  have rf := runs_len f.blocks
  have rg := runs_len g.blocks
  have mf := hf.many
  have mg := hg.many
  obtain ⟨h5, h6⟩ := putU_inj (by omega) (by omega) h4
  obtain ⟨h7, h8⟩ := runsB_inj h5 (runs_ok _ hf.blocks hf.many) (runs_ok _ hg.blocks hg.many) h6
  have h9 : f.blocks = g.blocks := by rw [← runs_expand f.blocks, h7, runs_expand]
  obtain ⟨fn, fs, fb⟩ := f
  obtain ⟨gn, gs, gb⟩ := g
  simp only at h1 h3 h9
  have s1 := hf.size
  have s2 := hg.size
  simp only at s1 s2
  obtain rfl : fs = gs := by omega
  exact ⟨by rw [h1, h9], h8⟩
theorem files_inj : ∀ {L L' : List File} {x y : Dat}, L.length = L'.length → (∀ f ∈ L, FOk f) → (∀ f ∈ L', FOk f) → L.flatMap fileBytes ++ x = L'.flatMap fileBytes ++ y → L = L' ∧ x = y
  | [], [], x, y, _, _, _, h => ⟨rfl, by simpa using h⟩
  | [], q :: r, _, _, hl, _, _, _ => by simp at hl
  | p :: r, [], _, _, hl, _, _, _ => by simp at hl
  | p :: r, q :: r', x, y, hl, hp, hq, h => by
    rw [List.flatMap_cons, List.flatMap_cons, List.append_assoc, List.append_assoc] at h
    obtain ⟨h1, h2⟩ := fileBytes_inj (hp p (List.mem_cons_self ..)) (hq q (List.mem_cons_self ..)) h
    obtain ⟨h3, h4⟩ := files_inj (by simpa using hl) (fun z hz => hp z (List.mem_cons_of_mem _ hz)) (fun z hz => hq z (List.mem_cons_of_mem _ hz)) h2
    exact ⟨by rw [h1, h3], h4⟩
/-- a root that may be -/
structure ROk (r : Root) : Prop where
  gen : 1 ≤ r.gen ∧ r.gen ≤ 4611686018427387904
  many : r.files.length ≤ 64
  files : ∀ f ∈ r.files, FOk f
theorem rootLoad_inj {r q : Root} {x y : Dat} (hr : ROk r) (hq : ROk q) (h : rootLoad r ++ x = rootLoad q ++ y) : r = q ∧ x = y := by
  unfold rootLoad at h
  simp only [List.append_assoc] at h
  have := hr.gen
  have := hq.gen
  have := hr.many
  have := hq.many
  obtain ⟨h1, h2⟩ := putU_inj (by omega) (by omega) h
  obtain ⟨h3, h4⟩ := putU_inj (by omega) (by omega) h2
  obtain ⟨h5, h6⟩ := files_inj h3 hr.files hq.files h4
  obtain ⟨rg, rf⟩ := r
  obtain ⟨qg, qf⟩ := q
  simp only at h1 h5
  exact ⟨by rw [h1, h5], h6⟩
/-- the root with whose bytes a text begins is one alone -/
theorem isRoot_one {l : Dat} {n : Int} {r q : Root} (hr : ROk r) (hq : ROk q) (h1 : IsRoot l n r) (h2 : IsRoot l n q) (lr : (rootLoad r).length ≤ 262144) (lq : (rootLoad q).length ≤ 262144) : r = q := by
  obtain ⟨e1, t1, p1⟩ := h1
  obtain ⟨e2, t2, p2⟩ := h2
  have f1 := Fr.take_put (c := 1) (l := rootLoad r) (r := t1) (by decide) lr
  have f2 := Fr.take_put (c := 1) (l := rootLoad q) (r := t2) (by decide) lq
  have x1 : (encode r n).1 = (Fr.put 1 (rootLoad r)).1 := by
    unfold encode at e1 ⊢
    split at e1
    · rename_i h
      rw [if_pos h]
      split at e1
      · rename_i h'; rw [if_pos h']
      · cases e1
    · cases e1
  have x2 : (encode q n).1 = (Fr.put 1 (rootLoad q)).1 := by
    unfold encode at e2 ⊢
    split at e2
    · rename_i h
      rw [if_pos h]
      split at e2
      · rename_i h'; rw [if_pos h']
      · cases e2
    · cases e2
  rw [← x1, p1] at f1
  rw [← x2, p2, f1] at f2
  have h3 : rootLoad r = rootLoad q := congrArg (fun z => z.1.2) f2
  exact (rootLoad_inj (x := []) (y := []) hr hq (by rw [h3])).1
theorem put_load {c : UInt8} {l : Dat} (h : (Fr.put c l).2 = 0) : l.length ≤ 262144 := by
  by_cases h1 : 262144 < l.length
  · rw [Fr.put_long h1] at h; cases h
  · omega
theorem encode_ok {r : Root} {n : Int} (h : (encode r n).2 = 0) : may r (min n 16384) = true ∧ (Fr.put 1 (rootLoad r)).2 = 0 ∧ (Fr.put 1 (rootLoad r)).1.length ≤ 3840 ∧ (encode r n).1 = (Fr.put 1 (rootLoad r)).1 := by
  unfold encode at h ⊢
  split at h
  · rename_i h1
    rw [if_pos h1]
    split at h
    · rename_i h2
      rw [if_pos h2]
      exact ⟨h1, h2.1, h2.2, rfl⟩
    · cases h
  · cases h
theorem rok_of_may {r : Root} {m : Int} (hm : m ≤ 16384) (h : may r m = true) : ROk r := by
  obtain ⟨g1, g2, g3, hf⟩ := may_in h
  have hgo : mayGo m r.files none [] = true := by
    unfold may at h
    simp only [Bool.and_eq_true] at h
    exact h.2
  refine ⟨⟨g1, g2⟩, g3, fun f hff => ?_⟩
  obtain ⟨k1, k2, k3⟩ := hf f hff
  obtain ⟨l1, l2⟩ := mayGo_len hm hgo List.nodup_nil (fun b hb => by cases hb) f hff
  refine ⟨k3, ⟨k2, ?_⟩, fun b hb => by have := k1 b hb; omega, by omega⟩
  unfold takes at l2
  omega
/-- THE ROOT WITH WHOSE BYTES A TEXT BEGINS IS ONE ALONE -/
theorem isRoot_same {l : Dat} {n : Int} {r q : Root} (h1 : IsRoot l n r) (h2 : IsRoot l n q) : r = q := by
  obtain ⟨a1, b1, _, _⟩ := encode_ok h1.1
  obtain ⟨a2, b2, _, _⟩ := encode_ok h2.1
  exact isRoot_one (rok_of_may (Int.min_le_right _ _) a1) (rok_of_may (Int.min_le_right _ _) a2) h1 h2 (put_load b1) (put_load b2)
theorem decode_iff {l : Dat} {n : Int} {r : Root} : decode l n = some r ↔ IsRoot l n r := by
  unfold decode
  constructor
  · intro h
    split at h
    · rename_i hx
      rw [← Option.some.inj h]
      exact hx.choose_spec
    · cases h
  · intro h
    have hx : ∃ r, IsRoot l n r := ⟨r, h⟩
    rw [dif_pos hx]
    exact congrArg some (isRoot_same hx.choose_spec h)
theorem decode_none {l : Dat} {n : Int} : decode l n = none ↔ ∀ r, ¬ IsRoot l n r := by
  unfold decode
  constructor
  · intro h r hr
    rw [dif_pos ⟨r, hr⟩] at h
    cases h
  · intro h
    rw [dif_neg (fun ⟨r, hr⟩ => h r hr)]
theorem decode_encode {r : Root} {n : Int} {rest : Dat} (h : (encode r n).2 = 0) : decode ((encode r n).1 ++ rest) n = some r := decode_iff.2 ⟨h, rest, rfl⟩
end Fi
end Go.Proofs.Ytpldfdlnhgmnaaa

/-
  Plain mathematics of P4.1: reading a root, thing by thing; what is put again and is the same was the root's own bytes. No program is named here.
-/
namespace Go.Proofs.Ytpldfdlnhgmnaaa
namespace Fi

/-- what is left, and whether there was a fault -/
abbrev TkS := Dat × Bool
def tkNum (most : Nat) (s : TkS) : Nat × TkS :=
  if s.2 = true ∨ (Cd.takeU s.1).2.2 ≠ 0 ∨ most < (Cd.takeU s.1).1 then (0, (s.1, true)) else ((Cd.takeU s.1).1, (s.1.drop (Cd.takeU s.1).2.1, s.2))
def tkText (most : Nat) (s : TkS) : Dat × TkS :=
  if s.2 = true ∨ (Cd.takeT s.1 most).2.2 ≠ 0 then ([], (s.1, true)) else ((Cd.takeT s.1 most).1, (s.1.drop (Cd.takeT s.1 most).2.1, s.2))
def tkRunsGo : Nat → List Int → TkS → List Int × TkS
  | 0, bl, s => (bl, s)
  | k + 1, bl, s => tkRunsGo k (bl ++ runOf (((tkNum 16384 s).1 : Int), (tkNum (16384 - bl.length) (tkNum 16384 s).2).1)) (tkNum (16384 - bl.length) (tkNum 16384 s).2).2
def tkRuns (s : TkS) : List Int × TkS := tkRunsGo (tkNum s.1.length s).1 [] (tkNum s.1.length s).2
def tkFile (s : TkS) : File × TkS :=
  (⟨(tkText 32 s).1, ((tkNum 9223372036854775807 (tkText 32 s).2).1 : Int), (tkRuns (tkNum 9223372036854775807 (tkText 32 s).2).2).1⟩, (tkRuns (tkNum 9223372036854775807 (tkText 32 s).2).2).2)
def tkFiles : Nat → List File → TkS → List File × TkS
  | 0, fs, s => (fs, s)
  | k + 1, fs, s => tkFiles k (fs ++ [(tkFile s).1]) (tkFile s).2
def tkCount (s : TkS) : Nat × TkS := tkNum 64 (tkNum 4611686018427387904 s).2
def tkAll (s : TkS) : List File × TkS := tkFiles (tkCount s).1 [] (tkCount s).2
def tkRoot (l : Dat) : Root := if (tkAll (l, false)).2.2 = true then ⟨0, []⟩ else ⟨(tkNum 4611686018427387904 (l, false)).1, (tkAll (l, false)).1⟩
/-- DecodeRoot, as it is built -/
def decR (l : Dat) (n : Int) : Option Root :=
  if (Fr.take l).2.2 ≠ 0 then none else
  if (encode (tkRoot (Fr.take l).1.2) n).2 = 0 ∧ (encode (tkRoot (Fr.take l).1.2) n).1 = l.take (Fr.take l).2.1 then some (tkRoot (Fr.take l).1.2) else none

theorem putU_ne (n : Nat) : 1 ≤ (Cd.putU n).length := by
  rw [Cd.putU]; split <;> simp
theorem tkNum_put {most a : Nat} (x : Dat) (ha : a ≤ most) (h : a < 18446744073709551616) : tkNum most (Cd.putU a ++ x, false) = (a, (x, false)) := by
  unfold tkNum
  simp only [Cd.takeU_putU a x h]
  rw [if_neg (by simp; omega)]
  simp
theorem tkText_put {most : Nat} {s : Dat} (x : Dat) (hs : s.length ≤ most) (h : most < 18446744073709551616) : tkText most (Cd.putT s ++ x, false) = (s, (x, false)) := by
  have hu : Cd.takeU (Cd.putT s ++ x) = (s.length, (Cd.putU s.length).length, 0) := by
    unfold Cd.putT
    rw [List.append_assoc, Cd.takeU_putU _ _ (by omega)]
  have ht : Cd.takeT (Cd.putT s ++ x) (most : Int) = (s, (Cd.putU s.length).length + s.length, 0) := by
    rw [Cd.takeT_text hu (by simpa using hs) (by unfold Cd.putT; simp)]
    unfold Cd.putT
    rw [List.append_assoc, List.drop_left' rfl, List.take_left' rfl]
  unfold tkText
  simp only [ht]
  rw [if_neg (by simp)]
  unfold Cd.putT
  rw [← List.length_append, List.drop_left' rfl]
theorem runOf_len (p : Int × Nat) : (runOf p).length = p.2 := by simp [runOf]
theorem tkRunsGo_put : ∀ (L : List (Int × Nat)) (bl : List Int) (x : Dat), (∀ p ∈ L, 0 ≤ p.1 ∧ p.1 ≤ 16384) → bl.length + (L.flatMap runOf).length ≤ 16384 → tkRunsGo L.length bl (L.flatMap runB ++ x, false) = (bl ++ L.flatMap runOf, (x, false))
  | [], bl, x, _, _ => by simp [tkRunsGo]
  | p :: r, bl, x, hp, hl => by
    rw [List.flatMap_cons, List.length_append, runOf_len] at hl
    obtain ⟨h0, h1⟩ := hp p (List.mem_cons_self ..)
    have e1 : tkNum 16384 ((p :: r).flatMap runB ++ x, false) = (p.1.toNat, (Cd.putU p.2 ++ (r.flatMap runB ++ x), false)) := by
      rw [List.flatMap_cons]
      unfold runB
      rw [List.append_assoc, List.append_assoc]
      exact tkNum_put _ (by omega) (by omega)
    have e2 : tkNum (16384 - bl.length) (Cd.putU p.2 ++ (r.flatMap runB ++ x), false) = (p.2, (r.flatMap runB ++ x, false)) := tkNum_put _ (by omega) (by omega)
    rw [List.length_cons, tkRunsGo, e1]
    simp only [e2]
    rw [show ((p.1.toNat : Nat) : Int) = p.1 by omega]
    rw [tkRunsGo_put r (bl ++ runOf (p.1, p.2)) x (fun q hq => hp q (List.mem_cons_of_mem _ hq)) (by rw [List.length_append, runOf_len]; simp only; omega)]
    rw [List.flatMap_cons, List.append_assoc]
theorem runB_pos (p : Int × Nat) : 2 ≤ (runB p).length := by
  unfold runB
  rw [List.length_append]
  have := putU_ne p.1.toNat
  have := putU_ne p.2
  omega
theorem flat_pos (L : List (Int × Nat)) : L.length ≤ (L.flatMap runB).length := by
  induction L with
  | nil => simp
  | cons p r ih => rw [List.flatMap_cons, List.length_append, List.length_cons]; have := runB_pos p; omega
theorem runs_first (l : List Int) (h : ∀ b ∈ l, 0 ≤ b ∧ b ≤ 16384) : ∀ p ∈ runs l, 0 ≤ p.1 ∧ p.1 ≤ 16384 := by
  induction hn : l.length using Nat.strongRecOn generalizing l with
  | _ n ih =>
    match l, hn with
    | [], _ => intro p hp; rw [runs] at hp; cases hp
    | y :: r, hn =>
      rw [runs_cons]
      intro p hp
      rcases List.mem_cons.1 hp with rfl | hp
      · exact h y (List.mem_cons_self ..)
      · simp at hn
        exact ih (r.drop (runLen y r)).length (by simp; omega) _ (fun b hb => h b (List.mem_cons_of_mem _ (List.mem_of_mem_drop hb))) rfl p hp
theorem tkRuns_put (l : List Int) (x : Dat) (h : ∀ b ∈ l, 0 ≤ b ∧ b ≤ 16384) (hl : l.length ≤ 16384) : tkRuns (runBytes l ++ x, false) = (l, (x, false)) := by
  unfold tkRuns runBytes
  have hr := runs_len l
  have hp := flat_pos (runs l)
  have e1 : tkNum (Cd.putU (runs l).length ++ (runs l).flatMap runB ++ x).length (Cd.putU (runs l).length ++ (runs l).flatMap runB ++ x, false) = ((runs l).length, ((runs l).flatMap runB ++ x, false)) := by
    have hle : (runs l).length ≤ (Cd.putU (runs l).length ++ (runs l).flatMap runB ++ x).length := by rw [List.length_append, List.length_append]; omega
    generalize (Cd.putU (runs l).length ++ (runs l).flatMap runB ++ x).length = m at *
    rw [List.append_assoc]
    exact tkNum_put _ hle (by omega)
  simp only [e1]
  rw [tkRunsGo_put (runs l) [] x (runs_first l h) (by rw [runs_expand]; simpa using hl), runs_expand]
  rfl
/-- a file that a root may have, as it is read -/
structure FRd (f : File) : Prop where
  name : f.name.length ≤ 32
  size : 0 ≤ f.size ∧ f.size ≤ 9223372036854775807
  blocks : ∀ b ∈ f.blocks, 0 ≤ b ∧ b ≤ 16384
  many : f.blocks.length ≤ 16384
theorem tkFile_put (f : File) (x : Dat) (h : FRd f) : tkFile (fileBytes f ++ x, false) = (f, (x, false)) := by
  unfold tkFile fileBytes
  have hs := h.size
  have e1 : tkText 32 (Cd.putT f.name ++ Cd.putU f.size.toNat ++ runBytes f.blocks ++ x, false) = (f.name, (Cd.putU f.size.toNat ++ (runBytes f.blocks ++ x), false)) := by
    rw [List.append_assoc, List.append_assoc]
    exact tkText_put _ h.name (by omega)
  have e2 : tkNum 9223372036854775807 (Cd.putU f.size.toNat ++ (runBytes f.blocks ++ x), false) = (f.size.toNat, (runBytes f.blocks ++ x, false)) := tkNum_put _ (by omega) (by omega)
  simp only [e1, e2, tkRuns_put f.blocks x h.blocks h.many]
  rw [show ((f.size.toNat : Nat) : Int) = f.size by omega]
theorem tkFiles_put : ∀ (L fs : List File) (x : Dat), (∀ f ∈ L, FRd f) → tkFiles L.length fs (L.flatMap fileBytes ++ x, false) = (fs ++ L, (x, false))
  | [], fs, x, _ => by simp [tkFiles]
  | f :: r, fs, x, h => by
    rw [List.length_cons, tkFiles, List.flatMap_cons, List.append_assoc, tkFile_put f _ (h f (List.mem_cons_self ..))]
    simp only
    rw [tkFiles_put r (fs ++ [f]) x (fun q hq => h q (List.mem_cons_of_mem _ hq)), List.append_assoc]
    rfl
theorem tkRoot_put (r : Root) (hg : r.gen ≤ 4611686018427387904) (hl : r.files.length ≤ 64) (h : ∀ f ∈ r.files, FRd f) : tkRoot (rootLoad r) = r := by
  have e1 : tkNum 4611686018427387904 (rootLoad r, false) = (r.gen, (Cd.putU r.files.length ++ (r.files.flatMap fileBytes ++ []), false)) := by
    unfold rootLoad
    rw [List.append_assoc, List.append_nil]
    exact tkNum_put _ hg (by omega)
  have e2 : tkCount (rootLoad r, false) = (r.files.length, (r.files.flatMap fileBytes ++ [], false)) := by
    unfold tkCount
    rw [e1]
    exact tkNum_put _ hl (by omega)
  have e3 : tkAll (rootLoad r, false) = (r.files, ([], false)) := by
    unfold tkAll
    rw [e2]
    have := tkFiles_put r.files [] [] h
    simpa using this
  unfold tkRoot
  rw [e3, e1]
  rfl
theorem frd_of_may {r : Root} {m : Int} (hm : m ≤ 16384) (h : may r m = true) : ∀ f ∈ r.files, FRd f := by
  obtain ⟨g1, g2, g3, hf⟩ := may_in h
  have hgo : mayGo m r.files none [] = true := by
    unfold may at h
    simp only [Bool.and_eq_true] at h
    exact h.2
  intro f hff
  obtain ⟨k1, k2, k3⟩ := hf f hff
  obtain ⟨l1, l2⟩ := mayGo_len hm hgo List.nodup_nil (fun b hb => by cases hb) f hff
  refine ⟨k3, ⟨k2, ?_⟩, fun b hb => by have := k1 b hb; omega, l1⟩
  unfold takes at l2
  omega
theorem decR_decode (l : Dat) (n : Int) : decR l n = decode l n := by
  have key : ∀ r, IsRoot l n r → decR l n = some r := fun r h => by
    obtain ⟨h1, t, h2⟩ := h
    obtain ⟨a1, b1, c1, d1⟩ := encode_ok h1
    have ft := Fr.take_put (c := 1) (l := rootLoad r) (r := t) (by decide) (put_load b1)
    rw [← d1, h2] at ft
    have hm := may_in a1
    have hr := tkRoot_put r hm.2.1 hm.2.2.1 (frd_of_may (Int.min_le_right _ _) a1)
    unfold decR
    simp only [ft, hr]
    rw [if_neg (by simp), if_pos ⟨h1, by rw [← h2, List.take_left' rfl]⟩]
  cases hd : decode l n with
  | some r => exact key r (decode_iff.1 hd)
  | none =>
    have hn := decode_none.1 hd
    unfold decR
    split
    · rfl
    · split
      · rename_i h
        exact absurd ⟨h.1, by rw [h.2]; exact List.take_prefix _ _⟩ (hn _)
      · rfl

/-! ### bounds of what is read, whatever it is -/
theorem tkNum_le (most : Nat) (s : TkS) : (tkNum most s).1 ≤ most := by
  unfold tkNum
  split
  · exact Nat.zero_le _
  · rename_i h
    simp only
    have : ¬ most < (Cd.takeU s.1).1 := fun hh => h (.inr (.inr hh))
    omega
theorem tkNum_len (most : Nat) (s : TkS) : (tkNum most s).2.1.length ≤ s.1.length := by
  unfold tkNum
  split
  · exact Nat.le_refl _
  · simp
theorem takeT_len (l : Dat) (most : Nat) : (Cd.takeT l most).1.length ≤ most := by
  unfold Cd.takeT
  split
  · simp
  · split
    · simp
    · split
      · simp
      · rename_i h1 h2 h3
        simp at h2 h3 ⊢
        omega
theorem tkText_le (most : Nat) (s : TkS) : (tkText most s).1.length ≤ most := by
  unfold tkText
  split
  · simp
  · exact takeT_len _ _
theorem tkText_len (most : Nat) (s : TkS) : (tkText most s).2.1.length ≤ s.1.length := by
  unfold tkText
  split
  · exact Nat.le_refl _
  · simp
theorem tkRunsGo_in : ∀ (k : Nat) (bl : List Int) (s : TkS), bl.length ≤ 16384 → (∀ b ∈ bl, 0 ≤ b ∧ b ≤ 32768) → (tkRunsGo k bl s).1.length ≤ 16384 ∧ (∀ b ∈ (tkRunsGo k bl s).1, 0 ≤ b ∧ b ≤ 32768) ∧ (tkRunsGo k bl s).2.1.length ≤ s.1.length
  | 0, bl, s, h1, h2 => ⟨h1, h2, Nat.le_refl _⟩
  | k + 1, bl, s, h1, h2 => by
    rw [tkRunsGo]
    have a1 := tkNum_le 16384 s
    have a2 := tkNum_le (16384 - bl.length) (tkNum 16384 s).2
    have a3 := tkNum_len 16384 s
    have a4 := tkNum_len (16384 - bl.length) (tkNum 16384 s).2
    have := tkRunsGo_in k (bl ++ runOf (((tkNum 16384 s).1 : Int), (tkNum (16384 - bl.length) (tkNum 16384 s).2).1)) (tkNum (16384 - bl.length) (tkNum 16384 s).2).2 (by rw [List.length_append, runOf_len]; simp only; omega) (fun b hb => by
      rcases List.mem_append.1 hb with hb | hb
      · exact h2 b hb
      · unfold runOf at hb
        obtain ⟨j, hj, rfl⟩ := List.mem_map.1 hb
        have := List.mem_range.1 hj
        simp only at this ⊢
        omega)
    exact ⟨this.1, this.2.1, by omega⟩
theorem tkRuns_in (s : TkS) : (tkRuns s).1.length ≤ 16384 ∧ (∀ b ∈ (tkRuns s).1, 0 ≤ b ∧ b ≤ 32768) ∧ (tkRuns s).2.1.length ≤ s.1.length := by
  unfold tkRuns
  have h := tkRunsGo_in (tkNum s.1.length s).1 [] (tkNum s.1.length s).2 (by simp) (fun b hb => by cases hb)
  have := tkNum_len s.1.length s
  exact ⟨h.1, h.2.1, by omega⟩
theorem tkFile_in (s : TkS) : FileIn (tkFile s).1 ∧ (tkFile s).2.1.length ≤ s.1.length := by
  unfold tkFile
  have a := tkText_le 32 s
  have b := tkNum_le 9223372036854775807 (tkText 32 s).2
  obtain ⟨c, d, e⟩ := tkRuns_in (tkNum 9223372036854775807 (tkText 32 s).2).2
  have f := tkText_len 32 s
  have g := tkNum_len 9223372036854775807 (tkText 32 s).2
  exact ⟨⟨by simp only; omega, ⟨by simp only; omega, by simp only; omega⟩, by simp only; omega, fun x hx => by have := d x hx; exact ⟨by omega, by omega⟩⟩, by simp only; omega⟩
theorem tkFiles_in : ∀ (k : Nat) (fs : List File) (s : TkS), (∀ f ∈ fs, FileIn f) → (∀ f ∈ (tkFiles k fs s).1, FileIn f) ∧ (tkFiles k fs s).1.length = fs.length + k
  | 0, fs, s, h => ⟨h, rfl⟩
  | k + 1, fs, s, h => by
    rw [tkFiles]
    have := tkFiles_in k (fs ++ [(tkFile s).1]) (tkFile s).2 (fun f hf => by
      rcases List.mem_append.1 hf with hf | hf
      · exact h f hf
      · simp at hf; subst hf; exact (tkFile_in s).1)
    exact ⟨this.1, by rw [this.2, List.length_append, List.length_singleton]; omega⟩
theorem tkRoot_in (l : Dat) : (tkRoot l).gen ≤ 4611686018427387904 ∧ (tkRoot l).files.length ≤ 64 ∧ ∀ f ∈ (tkRoot l).files, FileIn f := by
  unfold tkRoot
  split
  · exact ⟨by simp, by simp, fun f hf => by cases hf⟩
  · have h := tkFiles_in (tkCount (l, false)).1 [] (tkCount (l, false)).2 (fun f hf => by cases hf)
    have h2 := tkNum_le 64 (tkNum 4611686018427387904 (l, false)).2
    refine ⟨tkNum_le _ _, ?_, h.1⟩
    show (tkAll (l, false)).1.length ≤ 64
    unfold tkAll
    rw [h.2]
    unfold tkCount
    simp only [List.length_nil]
    omega
end Fi
end Go.Proofs.Ytpldfdlnhgmnaaa

/-
  Plain mathematics of chapter 5 (wal): puts, batches, their loads; a load tells its batch. No program is named here.
-/
namespace Go.Proofs.Ytpldfdlnhgmnaaa
namespace Cd
/-- what is read as a number is just that number's bytes -/
theorem takeGo_canon (l : List UInt8) : ∀ (i acc n j : Nat), i ≤ 9 → takeGo l i acc = (n, j, 0) → ∃ m, n = acc + m * 128 ^ i ∧ j = i + (putU m).length ∧ l = putU m ++ l.drop (putU m).length ∧ (0 < i → m ≠ 0) := by
  induction l with
  | nil => intro i acc n j _ h; simp [takeGo] at h
  | cons c r ih =>
    intro i acc n j hi h
    by_cases hbad : (i = 9 ∧ 1 < c.toNat) ∨ (0 < i ∧ c.toNat = 0)
    · rw [go_bad hbad] at h; simp at h
    · have hcb := c.toNat_lt
      by_cases hc : c.toNat < 128
      · rw [go_last hbad hc] at h
        have hp : putU c.toNat = [c] := by rw [putU, if_pos hc]; simp
        refine ⟨c.toNat, ?_, ?_, ?_, fun h0 e => hbad (.inr ⟨h0, e⟩)⟩
        · have := congrArg (·.1) h; simp only at this; rw [← this, Nat.mod_eq_of_lt hc]
        · have := congrArg (·.2.1) h; simp only at this; rw [hp]; exact this.symm
        · rw [hp]; rfl
      · rw [go_more hbad (by omega)] at h
        have hi9 : i + 1 ≤ 9 := by
          by_cases h9 : i = 9
          · exact absurd (.inl ⟨h9, by omega⟩) hbad
          · omega
        obtain ⟨m', h1, h2, h3, h4⟩ := ih (i + 1) _ n j hi9 h
        have hm0 := h4 (by omega)
        refine ⟨c.toNat % 128 + 128 * m', ?_, ?_, ?_, fun _ => by omega⟩
        · rw [h1, pow_s, Nat.add_mul, ← Nat.add_assoc]; congr 1; rw [← Nat.mul_assoc, Nat.mul_comm m' 128]
        · have e : putU (c.toNat % 128 + 128 * m') = UInt8.ofNat ((c.toNat % 128 + 128 * m') % 128 + 128) :: putU ((c.toNat % 128 + 128 * m') / 128) := by rw [putU, if_neg (by omega)]
          rw [e, show (c.toNat % 128 + 128 * m') / 128 = m' by omega, List.length_cons, h2]; omega
        · have e : putU (c.toNat % 128 + 128 * m') = UInt8.ofNat ((c.toNat % 128 + 128 * m') % 128 + 128) :: putU ((c.toNat % 128 + 128 * m') / 128) := by rw [putU, if_neg (by omega)]
          have ec : UInt8.ofNat ((c.toNat % 128 + 128 * m') % 128 + 128) = c := by
            rw [show (c.toNat % 128 + 128 * m') % 128 + 128 = c.toNat by omega]; simp
          rw [e, ec, show (c.toNat % 128 + 128 * m') / 128 = m' by omega, List.length_cons, List.drop_succ_cons, List.cons_append, ← h3]
theorem takeU_canon {l : List UInt8} {n k : Nat} (h : takeU l = (n, k, 0)) : l = putU n ++ l.drop k := by
  obtain ⟨m, h1, h2, h3, _⟩ := takeGo_canon l 0 0 n k (by omega) h
  obtain rfl : n = m := by simpa using h1
  rw [show k = (putU n).length by omega]
  exact h3
theorem takeT_canon {l t : List UInt8} {most : Int} {k : Nat} (h : takeT l most = (t, k, 0)) : l = putT t ++ l.drop k := by
  obtain ⟨n, k0, e, hu⟩ : ∃ n k0 e, takeU l = (n, k0, e) := ⟨_, _, _, rfl⟩
  by_cases he : e = 0
  · subst he
    have hl := (takeU_ok l).2.2.1
    rw [hu] at hl
    simp only at hl
    by_cases h1 : most.toNat < n
    · rw [takeT_most hu h1] at h; simp at h
    · by_cases h2 : l.length - k0 < n
      · rw [takeT_more hu (by omega) h2] at h; simp at h
      · rw [takeT_text hu (by omega) (by omega)] at h
        obtain rfl : (l.drop k0).take n = t := congrArg (·.1) h
        obtain rfl : k0 + n = k := congrArg (·.2.1) h
        have hc := takeU_canon hu
        unfold putT
        have hlen : ((l.drop k0).take n).length = n := by rw [List.length_take, List.length_drop]; omega
        rw [hlen, List.append_assoc, ← List.drop_drop, List.take_append_drop]
        exact hc
  · rw [takeT_err hu he] at h
    exact absurd (congrArg (·.2.2) h) he
end Cd

namespace Wa
open Fi (Dat TkS tkNum tkText)
abbrev putT : Gn.Ty := .struct (.cons .str (.cons .str (.cons .bool .nil)))
abbrev batchT : Gn.Ty := .struct (.cons (.int .u64) (.cons (.slice putT) .nil))
/-- a put: its key, its value, whether it takes away -/
abbrev Pt := List UInt8 × List UInt8 × Bool × Unit
abbrev Bt := Int × List Pt × Unit
/-- P5.2: may a put be? -/
def mayB (p : Pt) : Bool := decide (1 ≤ p.1.length) && decide (p.1.length ≤ 96) && decide (p.2.1.length ≤ 16384) && (!p.2.2.1 || decide (p.2.1 = []))
/-- P5.3: a put as bytes -/
def putB (p : Pt) : Dat := if p.2.2.1 = true then 1 :: Cd.putT p.1 else 0 :: (Cd.putT p.1 ++ Cd.putT p.2.1)
def load (seq : Nat) (l : List Pt) : Dat := Cd.putU seq ++ Cd.putU l.length ++ l.flatMap putB
def MaxSeq : Nat := 1125899906842624
/-- P5.2: Check -/
def check (l : List Pt) : Nat := if l.length ≤ 256 ∧ (∀ p ∈ l, mayB p = true) ∧ (load MaxSeq l).length ≤ 262144 then 0 else 1
/-- P5.3: may a batch be? -/
def Right (b : Bt) : Prop := check b.2.1 = 0 ∧ 0 < b.2.1.length ∧ 1 ≤ b.1 ∧ b.1 ≤ MaxSeq ∧ b.1 + b.2.1.length - 1 ≤ MaxSeq
instance (b : Bt) : Decidable (Right b) := by unfold Right; infer_instance
/-- P5.3: Encode -/
def encode (b : Bt) : Dat × Nat := if Right b then Fr.put 2 (load b.1.toNat b.2.1) else ([], 1)
def IsLoad (l : Dat) (b : Bt) : Prop := Right b ∧ load b.1.toNat b.2.1 = l
open Classical in
/-- P5.4: Decode -/
noncomputable def decode (l : Dat) : Option Bt := if h : ∃ b, IsLoad l b then some h.choose else none
def last (b : Bt) : Int := b.1 + b.2.1.length - 1
/-- P5.5, over the frames that stand one behind the other: each with its place; the place behind all -/
noncomputable def repGo : List (Nat × (UInt8 × Dat)) → Int → Nat → List Bt × Nat
  | [], _, e => ([], e)
  | x :: r, seq, e =>
    match (if x.2.1 = 2 then decode x.2.2 else none) with
    | some b => if seq < b.1 then (b :: (repGo r (last b) e).1, (repGo r (last b) e).2) else ([], x.1)
    | none => ([], x.1)
noncomputable def replay (s : Dat) : List Bt × Nat := repGo (Fr.allGo s 0).1 0 (Fr.allGo s 0).2

/-! ### a load tells its batch -/
theorem putB_inj {p q : Pt} {x y : Dat} (hp : mayB p = true) (hq : mayB q = true) (h : putB p ++ x = putB q ++ y) : p = q ∧ x = y := by
  obtain ⟨pk, pv, pd, _⟩ := p
  obtain ⟨qk, qv, qd, _⟩ := q
  simp [mayB] at hp hq
  cases pd <;> cases qd <;> simp only [putB, if_true, if_false, Bool.false_eq_true, List.cons_append] at h
  · have h' := List.cons.inj h
    have h2 := h'.2
    rw [List.append_assoc, List.append_assoc] at h2
    obtain ⟨e1, h3⟩ := Fi.putT_inj (by omega) (by omega) h2
    obtain ⟨e2, h4⟩ := Fi.putT_inj (by omega) (by omega) h3
    exact ⟨by rw [e1, e2], h4⟩
  · exact absurd (List.cons.inj h).1 (by decide)
  · exact absurd (List.cons.inj h).1 (by decide)
  · obtain ⟨e1, h3⟩ := Fi.putT_inj (by omega) (by omega) (List.cons.inj h).2
    have v1 := hp.2
    have v2 := hq.2
    simp at v1 v2
    exact ⟨by rw [e1, v1, v2], h3⟩
theorem puts_inj : ∀ {L L' : List Pt} {x y : Dat}, L.length = L'.length → (∀ p ∈ L, mayB p = true) → (∀ p ∈ L', mayB p = true) → L.flatMap putB ++ x = L'.flatMap putB ++ y → L = L' ∧ x = y
  | [], [], x, y, _, _, _, h => ⟨rfl, by simpa using h⟩
  | [], q :: r, _, _, hl, _, _, _ => by simp at hl
  | p :: r, [], _, _, hl, _, _, _ => by simp at hl
  | p :: r, q :: r', x, y, hl, hp, hq, h => by
    rw [List.flatMap_cons, List.flatMap_cons, List.append_assoc, List.append_assoc] at h
    obtain ⟨h1, h2⟩ := putB_inj (hp p (List.mem_cons_self ..)) (hq q (List.mem_cons_self ..)) h
    obtain ⟨h3, h4⟩ := puts_inj (by simpa using hl) (fun z hz => hp z (List.mem_cons_of_mem _ hz)) (fun z hz => hq z (List.mem_cons_of_mem _ hz)) h2
    exact ⟨by rw [h1, h3], h4⟩
theorem check_ok {l : List Pt} (h : check l = 0) : l.length ≤ 256 ∧ (∀ p ∈ l, mayB p = true) ∧ (load MaxSeq l).length ≤ 262144 := by
  unfold check at h
  split at h
  · assumption
  · cases h
theorem isLoad_same {l : Dat} {b c : Bt} (h1 : IsLoad l b) (h2 : IsLoad l c) : b = c := by
  obtain ⟨⟨r1, r2, r3, r4, r5⟩, e1⟩ := h1
  obtain ⟨⟨s1, s2, s3, s4, s5⟩, e2⟩ := h2
  obtain ⟨bs, bp, _⟩ := b
  obtain ⟨cs, cp, _⟩ := c
  simp only at *
  obtain ⟨k1, k2, _⟩ := check_ok r1
  obtain ⟨m1, m2, _⟩ := check_ok s1
  have hM : MaxSeq = 1125899906842624 := rfl
  rw [← e2] at e1
  unfold load at e1
  rw [List.append_assoc, List.append_assoc] at e1
  obtain ⟨a1, a2⟩ := Fi.putU_inj (by omega) (by omega) e1
  obtain ⟨b1, b2⟩ := Fi.putU_inj (by omega) (by omega) a2
  obtain ⟨c1, _⟩ := puts_inj (x := []) (y := []) b1 k2 m2 (by simpa using b2)
  rw [c1, show bs = cs by omega]
theorem decode_iff {l : Dat} {b : Bt} : decode l = some b ↔ IsLoad l b := by
  unfold decode
  constructor
  · intro h
    split at h
    · rename_i hx
      rw [← Option.some.inj h]
      exact hx.choose_spec
    · cases h
  · intro h
    have hx : ∃ b, IsLoad l b := ⟨b, h⟩
    rw [dif_pos hx]
    exact congrArg some (isLoad_same hx.choose_spec h)
theorem decode_none {l : Dat} : decode l = none ↔ ∀ b, ¬ IsLoad l b := by
  unfold decode
  constructor
  · intro h b hb
    rw [dif_pos ⟨b, hb⟩] at h
    cases h
  · intro h
    rw [dif_neg (fun ⟨b, hb⟩ => h b hb)]

/-! ### reading one, thing by thing, as the document does -/
def rdPut (s : TkS) : Pt × TkS :=
  if (tkNum 1 s).1 = 0 then (((tkText 96 (tkNum 1 s).2).1, (tkText 16384 (tkText 96 (tkNum 1 s).2).2).1, false, ()), (tkText 16384 (tkText 96 (tkNum 1 s).2).2).2)
  else (((tkText 96 (tkNum 1 s).2).1, [], true, ()), (tkText 96 (tkNum 1 s).2).2)
def rdPuts : Nat → List Pt → TkS → List Pt × TkS
  | 0, l, s => (l, s)
  | k + 1, l, s => if s.2 = true then (l, s) else rdPuts k (l ++ [(rdPut s).1]) (rdPut s).2
def rdCount (s : TkS) : Nat × TkS := tkNum 256 (tkNum MaxSeq s).2
def rdAll (s : TkS) : List Pt × TkS := rdPuts (rdCount s).1 [] (rdCount s).2
def rdB (l : Dat) : Bt := (((tkNum MaxSeq (l, false)).1 : Int), (rdAll (l, false)).1, ())
def decR (l : Dat) : Option Bt := if (rdAll (l, false)).2 = ([], false) ∧ Right (rdB l) then some (rdB l) else none

theorem tkNum_sound {most : Nat} {s : TkS} (h : (tkNum most s).2.2 = false) : s.2 = false ∧ s.1 = Cd.putU (tkNum most s).1 ++ (tkNum most s).2.1 := by
  unfold tkNum at h ⊢
  split at h
  · simp at h
  · rename_i hx
    rw [if_neg hx]
    simp only at h ⊢
    refine ⟨h, Cd.takeU_canon (k := (Cd.takeU s.1).2.1) ?_⟩
    have h0 : (Cd.takeU s.1).2.2 = 0 := by
      by_cases h0 : (Cd.takeU s.1).2.2 = 0
      · exact h0
      · exact absurd (.inr (.inl h0)) hx
    rw [← h0]
theorem tkText_sound {most : Nat} {s : TkS} (h : (tkText most s).2.2 = false) : s.2 = false ∧ s.1 = Cd.putT (tkText most s).1 ++ (tkText most s).2.1 := by
  unfold tkText at h ⊢
  split at h
  · simp at h
  · rename_i hx
    rw [if_neg hx]
    simp only at h ⊢
    refine ⟨h, Cd.takeT_canon (most := most) (k := (Cd.takeT s.1 most).2.1) ?_⟩
    have h0 : (Cd.takeT s.1 most).2.2 = 0 := by
      by_cases h0 : (Cd.takeT s.1 most).2.2 = 0
      · exact h0
      · exact absurd (.inr h0) hx
    rw [← h0]
theorem putU_0 : Cd.putU 0 = [0] := by rw [Cd.putU]; rfl
theorem putU_1 : Cd.putU 1 = [1] := by rw [Cd.putU]; rfl
theorem rdPut_sound {s : TkS} (h : (rdPut s).2.2 = false) : s.2 = false ∧ s.1 = putB (rdPut s).1 ++ (rdPut s).2.1 := by
  unfold rdPut at h ⊢
  split at h
  · rename_i hx
    rw [if_pos hx]
    simp only at h ⊢
    obtain ⟨h1, e1⟩ := tkText_sound h
    obtain ⟨h2, e2⟩ := tkText_sound h1
    obtain ⟨h3, e3⟩ := tkNum_sound h2
    refine ⟨h3, ?_⟩
    rw [hx, putU_0] at e3
    rw [e3, e2, e1]
    simp [putB]
  · rename_i hx
    rw [if_neg hx]
    simp only at h ⊢
    obtain ⟨h2, e2⟩ := tkText_sound h
    obtain ⟨h3, e3⟩ := tkNum_sound h2
    have hle := Fi.tkNum_le 1 s
    refine ⟨h3, ?_⟩
    rw [show (tkNum 1 s).1 = 1 by omega, putU_1] at e3
    rw [e3, e2]
    simp [putB]
theorem rdPuts_sound : ∀ (k : Nat) (l : List Pt) (s : TkS), (rdPuts k l s).2.2 = false → s.2 = false ∧ ∃ L, (rdPuts k l s).1 = l ++ L ∧ L.length = k ∧ s.1 = L.flatMap putB ++ (rdPuts k l s).2.1
  | 0, l, s, h => ⟨h, [], by simp [rdPuts], rfl, by simp [rdPuts]⟩
  | k + 1, l, s, h => by
    rw [rdPuts] at h ⊢
    split at h
    · rename_i hs; rw [hs] at h; cases h
    · rename_i hs
      rw [if_neg hs]
      obtain ⟨h1, L, e1, e2, e3⟩ := rdPuts_sound k _ _ h
      obtain ⟨h2, e4⟩ := rdPut_sound h1
      exact ⟨h2, (rdPut s).1 :: L, by rw [e1, List.append_assoc]; rfl, by rw [List.length_cons, e2], by rw [List.flatMap_cons, List.append_assoc, ← e3]; exact e4⟩
theorem rdPut_put {p : Pt} {x : Dat} (hp : mayB p = true) : rdPut (putB p ++ x, false) = (p, (x, false)) := by
  obtain ⟨pk, pv, pd, _⟩ := p
  simp [mayB] at hp
  cases pd
  · have e1 : tkNum 1 (putB (pk, pv, false, ()) ++ x, false) = (0, (Cd.putT pk ++ (Cd.putT pv ++ x), false)) := by
      have := Fi.tkNum_put (most := 1) (a := 0) (Cd.putT pk ++ (Cd.putT pv ++ x)) (by omega) (by omega)
      rw [putU_0] at this
      simpa [putB] using this
    unfold rdPut
    rw [e1]
    simp only [if_true]
    rw [Fi.tkText_put _ (by omega) (by omega)]
    simp only
    rw [Fi.tkText_put _ (by omega) (by omega)]
  · have e1 : tkNum 1 (putB (pk, pv, true, ()) ++ x, false) = (1, (Cd.putT pk ++ x, false)) := by
      have := Fi.tkNum_put (most := 1) (a := 1) (Cd.putT pk ++ x) (by omega) (by omega)
      rw [putU_1] at this
      simpa [putB] using this
    unfold rdPut
    rw [e1]
    simp only
    rw [if_neg (by omega), Fi.tkText_put _ (by omega) (by omega)]
    have := hp.2
    simp at this
    rw [this]
theorem rdPuts_put : ∀ (L l : List Pt) (x : Dat), (∀ p ∈ L, mayB p = true) → rdPuts L.length l (L.flatMap putB ++ x, false) = (l ++ L, (x, false))
  | [], l, x, _ => by simp [rdPuts]
  | p :: r, l, x, h => by
    rw [List.length_cons, rdPuts, if_neg (by simp), List.flatMap_cons, List.append_assoc, rdPut_put (h p (List.mem_cons_self ..))]
    simp only
    rw [rdPuts_put r _ x (fun q hq => h q (List.mem_cons_of_mem _ hq)), List.append_assoc]
    rfl
theorem decR_decode (l : Dat) : decR l = decode l := by
  have hM : MaxSeq = 1125899906842624 := rfl
  cases hd : decode l with
  | some b =>
    obtain ⟨hr, hl⟩ := decode_iff.1 hd
    have hr0 := hr
    obtain ⟨r1, r2, r3, r4, r5⟩ := hr
    obtain ⟨k1, k2, _⟩ := check_ok r1
    have e1 : tkNum MaxSeq (l, false) = (b.1.toNat, (Cd.putU b.2.1.length ++ (b.2.1.flatMap putB ++ []), false)) := by
      rw [← hl]; unfold load
      rw [List.append_assoc, List.append_nil]
      exact Fi.tkNum_put _ (by omega) (by omega)
    have e2 : rdCount (l, false) = (b.2.1.length, (b.2.1.flatMap putB ++ [], false)) := by
      unfold rdCount
      rw [e1]
      exact Fi.tkNum_put _ k1 (by omega)
    have e3 : rdAll (l, false) = (b.2.1, ([], false)) := by
      unfold rdAll
      rw [e2]
      have := rdPuts_put b.2.1 [] [] k2
      simpa using this
    have e4 : rdB l = b := by
      unfold rdB
      rw [e3, e1]
      obtain ⟨bs, bp, _⟩ := b
      simp only at r3 ⊢
      rw [show ((bs.toNat : Nat) : Int) = bs by omega]
    unfold decR
    rw [e3, e4, if_pos ⟨rfl, hr0⟩]
  | none =>
    have hn := decode_none.1 hd
    unfold decR
    split
    · rename_i h
      refine absurd ⟨h.2, ?_⟩ (hn (rdB l))
      have h1 := h.1
      have hb : (rdPuts (rdCount (l, false)).1 [] (rdCount (l, false)).2).2.2 = false := congrArg (·.2) h1
      obtain ⟨g1, L, g2, g3, g4⟩ := rdPuts_sound _ _ _ hb
      have hrest : (rdPuts (rdCount (l, false)).1 [] (rdCount (l, false)).2).2.1 = [] := congrArg (·.1) h1
      rw [hrest, List.append_nil] at g4
      obtain ⟨g5, g6⟩ := tkNum_sound (s := (tkNum MaxSeq (l, false)).2) (most := 256) g1
      obtain ⟨_, g7⟩ := tkNum_sound (s := (l, false)) (most := MaxSeq) g5
      have hL : (rdB l).2.1 = L := by unfold rdB rdAll; rw [g2]; rfl
      unfold load
      rw [hL]
      show Cd.putU (((tkNum MaxSeq (l, false)).1 : Int)).toNat ++ Cd.putU L.length ++ L.flatMap putB = l
      have g7' : l = Cd.putU (tkNum MaxSeq (l, false)).1 ++ (tkNum MaxSeq (l, false)).2.1 := g7
      have hk : L.length = (tkNum 256 (tkNum MaxSeq (l, false)).2).1 := g3
      rw [Int.toNat_natCast, hk, List.append_assoc, ← g4]
      exact (congrArg (Cd.putU (tkNum MaxSeq (l, false)).1 ++ ·) g6).symm.trans g7'.symm
    · rfl
end Wa
end Go.Proofs.Ytpldfdlnhgmnaaa

/-
  Plain mathematics of P10.2: what an edit's bytes say, by two readers (the chapter's and the program's); both read just the bytes that Encode makes. No program is named here.
-/
namespace Go.Proofs.Ytpldfdlnhgmnaaa
set_option linter.unusedVariables false
set_option linter.unusedSimpArgs false
namespace Mf
open Fi (TkS tkNum tkText Dat)
/-- such a reader reads what such a writer wrote, and nothing else -/
structure Rds {α : Type} (P : TkS → α × TkS) (put : α → List UInt8) (ok : α → Prop) : Prop where
  sound : ∀ s, (P s).2.2 = false → s.2 = false ∧ s.1 = put (P s).1 ++ (P s).2.1
  whole : ∀ a x, ok a → P (put a ++ x, false) = (a, (x, false))
/-- the program's reader -/
def dvNum (s : TkS) : Nat × TkS := ((Cd.takeU s.1).1, (s.1.drop (Cd.takeU s.1).2.1, s.2 || decide ((Cd.takeU s.1).2.2 ≠ 0)))
def dvSmall (most : Nat) (s : TkS) : Nat × TkS := if most < (dvNum s).1 then (0, ((dvNum s).2.1, true)) else dvNum s
def dvKey (s : TkS) : Dat × TkS := ((Cd.takeT s.1 96).1, (s.1.drop (Cd.takeT s.1 96).2.1, s.2 || decide ((Cd.takeT s.1 96).2.2 ≠ 0)))
theorem tkNum_rds (most : Nat) (hm : most < 18446744073709551616) : Rds (tkNum most) Cd.putU (fun a => a ≤ most) where
  sound s h := by
    unfold tkNum at h ⊢
    split at h
    · cases h
    · rename_i hn
      rw [if_neg hn]
      simp only [not_or, Bool.not_eq_true, ne_eq, Decidable.not_not] at hn
      obtain ⟨h1, h2, h3⟩ := hn
      exact ⟨h1, Cd.takeU_canon (n := (Cd.takeU s.1).1) (k := (Cd.takeU s.1).2.1) (by rw [← h2])⟩
  whole a x h := Fi.tkNum_put x h (by omega)
theorem tkText_rds (most : Nat) (hm : most < 18446744073709551616) : Rds (tkText most) Cd.putT (fun a => a.length ≤ most) where
  sound s h := by
    unfold tkText at h ⊢
    split at h
    · cases h
    · rename_i hn
      rw [if_neg hn]
      simp only [not_or, Bool.not_eq_true, ne_eq, Decidable.not_not] at hn
      obtain ⟨h1, h2⟩ := hn
      exact ⟨h1, Cd.takeT_canon (t := (Cd.takeT s.1 most).1) (k := (Cd.takeT s.1 most).2.1) (most := most) (by rw [← h2])⟩
  whole a x h := Fi.tkText_put x h hm
theorem dvNum_rds : Rds dvNum Cd.putU (fun a => a < 18446744073709551616) where
  sound s h := by
    unfold dvNum at h ⊢
    simp only [Bool.or_eq_false_iff, decide_eq_false_iff_not, ne_eq, Decidable.not_not] at h
    obtain ⟨h1, h2⟩ := h
    exact ⟨h1, Cd.takeU_canon (n := (Cd.takeU s.1).1) (k := (Cd.takeU s.1).2.1) (by rw [← h2])⟩
  whole a x h := by
    unfold dvNum
    simp only [Cd.takeU_putU a x h]
    simp
theorem dvSmall_rds (most : Nat) (hm : most < 18446744073709551616) : Rds (dvSmall most) Cd.putU (fun a => a ≤ most) where
  sound s h := by
    unfold dvSmall at h ⊢
    split at h
    · cases h
    · rename_i hn
      rw [if_neg hn]
      exact dvNum_rds.sound s h
  whole a x h := by
    unfold dvSmall
    rw [dvNum_rds.whole a x (by omega)]
    exact if_neg (by simp only; omega)
theorem dvKey_rds : Rds dvKey Cd.putT (fun a => a.length ≤ 96) where
  sound s h := by
    unfold dvKey at h ⊢
    simp only [Bool.or_eq_false_iff, decide_eq_false_iff_not, ne_eq, Decidable.not_not] at h
    obtain ⟨h1, h2⟩ := h
    exact ⟨h1, Cd.takeT_canon (t := (Cd.takeT s.1 96).1) (k := (Cd.takeT s.1 96).2.1) (most := 96) (by rw [← h2])⟩
  whole a x h := by
    have hu : Cd.takeU (Cd.putT a ++ x) = (a.length, (Cd.putU a.length).length, 0) := by
      unfold Cd.putT
      rw [List.append_assoc, Cd.takeU_putU _ _ (by omega)]
    have ht : Cd.takeT (Cd.putT a ++ x) 96 = (a, (Cd.putU a.length).length + a.length, 0) := by
      rw [Cd.takeT_text hu (by simpa using h) (by unfold Cd.putT; simp)]
      unfold Cd.putT
      rw [List.append_assoc, List.drop_left' rfl, List.take_left' rfl]
    unfold dvKey
    simp only [ht]
    unfold Cd.putT
    rw [show (Cd.putU a.length).length + a.length = (Cd.putU a.length ++ a).length by simp, List.drop_left' rfl]
    simp
/-- a table -/
def tabBy (pn pl ps : TkS → Nat × TkS) (pk : TkS → Dat × TkS) (s : TkS) : Tbl × TkS :=
  (⟨((pn s).1 : Int), ((pl (pn s).2).1 : Int), ((ps (pl (pn s).2).2).1 : Int), ((ps (ps (pl (pn s).2).2).2).1 : Int), (pk (ps (ps (pl (pn s).2).2).2).2).1, (pk (pk (ps (ps (pl (pn s).2).2).2).2).2).1⟩,
    (pk (pk (ps (ps (pl (pn s).2).2).2).2).2).2)
theorem tabBy_rds {pn pl ps : TkS → Nat × TkS} {pk : TkS → Dat × TkS} {on ol os : Nat → Prop} {ok : Dat → Prop} (hn : Rds pn Cd.putU on) (hl : Rds pl Cd.putU ol) (hs : Rds ps Cd.putU os) (hk : Rds pk Cd.putT ok) :
    Rds (tabBy pn pl ps pk) putTab (fun x => 0 ≤ x.num ∧ on x.num.toNat ∧ 0 ≤ x.lev ∧ ol x.lev.toNat ∧ 0 ≤ x.siz ∧ os x.siz.toNat ∧ 0 ≤ x.cnt ∧ os x.cnt.toNat ∧ ok x.lo ∧ ok x.hi) where
  sound s h := by
    obtain ⟨h1, e1⟩ := hk.sound _ h
    obtain ⟨h2, e2⟩ := hk.sound _ h1
    obtain ⟨h3, e3⟩ := hs.sound _ h2
    obtain ⟨h4, e4⟩ := hs.sound _ h3
    obtain ⟨h5, e5⟩ := hl.sound _ h4
    obtain ⟨h6, e6⟩ := hn.sound _ h5
    refine ⟨h6, ?_⟩
    unfold tabBy putTab
    simp only [Int.toNat_natCast, List.append_assoc]
    rw [← e1, ← e2, ← e3, ← e4, ← e5]
    exact e6
  whole a x h := by
    obtain ⟨a0, o1, b0, o2, c0, o3, d0, o4, o5, o6⟩ := h
    obtain ⟨n, l, s, c, lo, hi⟩ := a
    obtain ⟨n, rfl⟩ := Int.eq_ofNat_of_zero_le a0
    obtain ⟨l, rfl⟩ := Int.eq_ofNat_of_zero_le b0
    obtain ⟨s, rfl⟩ := Int.eq_ofNat_of_zero_le c0
    obtain ⟨c, rfl⟩ := Int.eq_ofNat_of_zero_le d0
    simp only [Int.toNat_natCast] at o1 o2 o3 o4 o5 o6
    unfold tabBy putTab
    simp only [Int.toNat_natCast, List.append_assoc]
    rw [hn.whole n _ o1]
    simp only
    rw [hl.whole l _ o2]
    simp only
    rw [hs.whole s _ o3]
    simp only
    rw [hs.whole c _ o4]
    simp only
    rw [hk.whole lo _ o5]
    simp only
    rw [hk.whole hi _ o6]
/-- so many, one behind the other -/
def goA {α : Type} (P : TkS → α × TkS) : Nat → List α → TkS → List α × TkS
  | 0, L, s => (L, s)
  | k + 1, L, s => goA P k (L ++ [(P s).1]) (P s).2
/-- so many, as long as all is well -/
def goS {α : Type} (P : TkS → α × TkS) : Nat → List α → TkS → List α × TkS
  | 0, L, s => (L, s)
  | k + 1, L, s => if s.2 = true then (L, s) else goS P k (L ++ [(P s).1]) (P s).2
theorem goA_sound {α : Type} {P : TkS → α × TkS} {put : α → List UInt8} {ok : α → Prop} (h : Rds P put ok) : ∀ (k : Nat) (L : List α) (s : TkS), (goA P k L s).2.2 = false → s.2 = false ∧ ∃ M, (goA P k L s).1 = L ++ M ∧ M.length = k ∧ s.1 = M.flatMap put ++ (goA P k L s).2.1
  | 0, L, s, hb => ⟨hb, [], by simp [goA], rfl, by simp [goA]⟩
  | k + 1, L, s, hb => by
    rw [goA] at hb ⊢
    obtain ⟨h1, M, h2, h3, h4⟩ := goA_sound h k _ _ hb
    obtain ⟨g1, g2⟩ := h.sound s h1
    refine ⟨g1, (P s).1 :: M, by rw [h2]; simp, by simp [h3], ?_⟩
    rw [List.flatMap_cons, List.append_assoc, ← h4]
    exact g2
theorem goS_sound {α : Type} {P : TkS → α × TkS} {put : α → List UInt8} {ok : α → Prop} (h : Rds P put ok) : ∀ (k : Nat) (L : List α) (s : TkS), (goS P k L s).2.2 = false → s.2 = false ∧ ∃ M, (goS P k L s).1 = L ++ M ∧ M.length = k ∧ s.1 = M.flatMap put ++ (goS P k L s).2.1
  | 0, L, s, hb => ⟨hb, [], by simp [goS], rfl, by simp [goS]⟩
  | k + 1, L, s, hb => by
    rw [goS] at hb ⊢
    split at hb
    · rename_i hs; simp only at hb; rw [hs] at hb; cases hb
    · rename_i hs
      rw [if_neg hs]
      obtain ⟨h1, M, h2, h3, h4⟩ := goS_sound h k _ _ hb
      obtain ⟨g1, g2⟩ := h.sound s h1
      refine ⟨g1, (P s).1 :: M, by rw [h2]; simp, by simp [h3], ?_⟩
      rw [List.flatMap_cons, List.append_assoc, ← h4]
      exact g2
theorem goA_whole {α : Type} {P : TkS → α × TkS} {put : α → List UInt8} {ok : α → Prop} (h : Rds P put ok) : ∀ (M L : List α) (x : Dat), (∀ m ∈ M, ok m) → goA P M.length L (M.flatMap put ++ x, false) = (L ++ M, (x, false))
  | [], L, x, _ => by simp [goA]
  | a :: M, L, x, hm => by
    rw [List.length_cons, goA, List.flatMap_cons, List.append_assoc, h.whole a _ (hm a (List.mem_cons_self ..))]
    simp only
    rw [goA_whole h M (L ++ [a]) x (fun m hh => hm m (List.mem_cons_of_mem _ hh))]
    simp
theorem goS_whole {α : Type} {P : TkS → α × TkS} {put : α → List UInt8} {ok : α → Prop} (h : Rds P put ok) : ∀ (M L : List α) (x : Dat), (∀ m ∈ M, ok m) → goS P M.length L (M.flatMap put ++ x, false) = (L ++ M, (x, false))
  | [], L, x, _ => by simp [goS]
  | a :: M, L, x, hm => by
    rw [List.length_cons, goS, if_neg (by simp), List.flatMap_cons, List.append_assoc, h.whole a _ (hm a (List.mem_cons_self ..))]
    simp only
    rw [goS_whole h M (L ++ [a]) x (fun m hh => hm m (List.mem_cons_of_mem _ hh))]
    simp
/-- a number that is dropped -/
def dropBy (pn : TkS → Nat × TkS) (s : TkS) : Int × TkS := (((pn s).1 : Int), (pn s).2)
theorem dropBy_rds {pn : TkS → Nat × TkS} {on : Nat → Prop} (hn : Rds pn Cd.putU on) : Rds (dropBy pn) putD (fun d => 0 ≤ d ∧ on d.toNat) where
  sound s h := by
    obtain ⟨h1, h2⟩ := hn.sound s h
    exact ⟨h1, h2⟩
  whole a x h := by
    obtain ⟨a0, h⟩ := h
    obtain ⟨n, rfl⟩ := Int.eq_ofNat_of_zero_le a0
    unfold dropBy putD
    simp only [Int.toNat_natCast] at h ⊢
    rw [hn.whole n x h]
/-- the chapter's tables, numbers; the program's -/
def rTab : TkS → Tbl × TkS := tabBy (tkNum 4611686018427387904) (tkNum 3) (tkNum 1073741824) (tkText 96)
def dTab : TkS → Tbl × TkS := tabBy dvNum (dvSmall 3) (dvSmall 1073741824) dvKey
def rDrop : TkS → Int × TkS := dropBy (tkNum 4611686018427387904)
def dDrop : TkS → Int × TkS := dropBy dvNum
/-- what stands behind the heads, behind the tables, behind all -/
def rN1 (l : Dat) : TkS := (tkNum 4611686018427387904 (l, false)).2
def rN2 (l : Dat) : TkS := (tkNum 4611686018427387904 (rN1 l)).2
def rN3 (l : Dat) : TkS := (tkNum 4611686018427387904 (rN2 l)).2
def rM (l : Dat) : Nat × TkS := tkNum 1000 (rN3 l)
def rA (l : Dat) : List Tbl × TkS := goS rTab (rM l).1 [] (rM l).2
def rM2 (l : Dat) : Nat × TkS := tkNum 1000 (rA l).2
def rD (l : Dat) : List Int × TkS := goS rDrop (rM2 l).1 [] (rM2 l).2
def rE (l : Dat) : Ed := ⟨((tkNum 4611686018427387904 (l, false)).1 : Int), ((tkNum 4611686018427387904 (rN1 l)).1 : Int), ((tkNum 4611686018427387904 (rN2 l)).1 : Int), (rA l).1, (rD l).1⟩
def dN1 (l : Dat) : TkS := (dvNum (l, false)).2
def dN2 (l : Dat) : TkS := (dvNum (dN1 l)).2
def dN3 (l : Dat) : TkS := (dvNum (dN2 l)).2
def dM (l : Dat) : Nat × TkS := dvSmall 1000 (dN3 l)
def dA (l : Dat) : List Tbl × TkS := goA dTab (dM l).1 [] (dM l).2
def dM2 (l : Dat) : Nat × TkS := dvSmall 1000 (dA l).2
def dD (l : Dat) : List Int × TkS := goA dDrop (dM2 l).1 [] (dM2 l).2
def dE (l : Dat) : Ed := ⟨((dvNum (l, false)).1 : Int), ((dvNum (dN1 l)).1 : Int), ((dvNum (dN2 l)).1 : Int), (dA l).1, (dD l).1⟩
/-- an edit whose bytes these are -/
def IsE (l : Dat) (e : Ed) : Prop := mayE e = true ∧ 0 ≤ e.next ∧ 0 ≤ e.seq ∧ 0 ≤ e.log ∧ l = loadE e
def decR10 (l : Dat) : Option Ed := if (rD l).2.2 = false ∧ (rD l).2.1 = [] ∧ mayE (rE l) = true ∧ l.length ≤ 262144 then some (rE l) else none
def decD10 (l : Dat) : Option Ed := if (dD l).2.2 = false ∧ (dD l).2.1 = [] ∧ mayE (dE l) = true then some (dE l) else none
theorem tab_ok {x : Tbl} (h : mayT x = true) : 0 ≤ x.num ∧ x.num.toNat ≤ 4611686018427387904 ∧ 0 ≤ x.lev ∧ x.lev.toNat ≤ 3 ∧ 0 ≤ x.siz ∧ x.siz.toNat ≤ 1073741824 ∧ 0 ≤ x.cnt ∧ x.cnt.toNat ≤ 1073741824 ∧ x.lo.length ≤ 96 ∧ x.hi.length ≤ 96 := by
  have t := tok h
  obtain ⟨h1, h2, h3, h4, h5, h6, h7, h8, h9, h10, h11, h12⟩ := t
  exact ⟨by omega, by omega, by omega, by omega, by omega, by omega, by omega, by omega, h10, h12⟩
def rTOk (x : Tbl) : Prop := 0 ≤ x.num ∧ x.num.toNat ≤ 4611686018427387904 ∧ 0 ≤ x.lev ∧ x.lev.toNat ≤ 3 ∧ 0 ≤ x.siz ∧ x.siz.toNat ≤ 1073741824 ∧ 0 ≤ x.cnt ∧ x.cnt.toNat ≤ 1073741824 ∧ x.lo.length ≤ 96 ∧ x.hi.length ≤ 96
def dTOk (x : Tbl) : Prop := 0 ≤ x.num ∧ x.num.toNat < 18446744073709551616 ∧ 0 ≤ x.lev ∧ x.lev.toNat ≤ 3 ∧ 0 ≤ x.siz ∧ x.siz.toNat ≤ 1073741824 ∧ 0 ≤ x.cnt ∧ x.cnt.toNat ≤ 1073741824 ∧ x.lo.length ≤ 96 ∧ x.hi.length ≤ 96
theorem rTab_rds : Rds rTab putTab rTOk := tabBy_rds (tkNum_rds 4611686018427387904 (by decide)) (tkNum_rds 3 (by decide)) (tkNum_rds 1073741824 (by decide)) (tkText_rds 96 (by decide))
theorem dTab_rds : Rds dTab putTab dTOk := tabBy_rds dvNum_rds (dvSmall_rds 3 (by decide)) (dvSmall_rds 1073741824 (by decide)) dvKey_rds
theorem rDrop_rds : Rds rDrop putD (fun d => 0 ≤ d ∧ d.toNat ≤ 4611686018427387904) := dropBy_rds (tkNum_rds 4611686018427387904 (by decide))
theorem dDrop_rds : Rds dDrop putD (fun d => 0 ≤ d ∧ d.toNat < 18446744073709551616) := dropBy_rds dvNum_rds
theorem rE_sound {l : Dat} (h1 : (rD l).2.2 = false) (h2 : (rD l).2.1 = []) : l = loadE (rE l) := by
  have N := tkNum_rds 4611686018427387904 (by decide)
  have K := tkNum_rds 1000 (by decide)
  have h1' := h1
  unfold rD at h1'
  obtain ⟨g1, M, g2, g3, g4⟩ := goS_sound rDrop_rds (rM2 l).1 [] (rM2 l).2 h1'
  obtain ⟨k1, k2⟩ := K.sound (rA l).2 g1
  have k1' : (goS rTab (rM l).1 [] (rM l).2).2.2 = false := by unfold rA at k1; exact k1
  obtain ⟨a1, A, a2, a3, a4⟩ := goS_sound rTab_rds (rM l).1 [] (rM l).2 k1'
  obtain ⟨m1, m2⟩ := K.sound (rN3 l) a1
  obtain ⟨n1, e1⟩ := N.sound (rN2 l) m1
  obtain ⟨n2, e2⟩ := N.sound (rN1 l) n1
  obtain ⟨n3, e3⟩ := N.sound (l, false) n2
  change (rD l).1 = [] ++ M at g2
  change (rA l).1 = [] ++ A at a2
  rw [List.nil_append] at g2 a2
  change (rM2 l).2.1 = M.flatMap putD ++ (rD l).2.1 at g4
  rw [h2, List.append_nil] at g4
  have em : M.length = (rM2 l).1 := g3
  have ea : A.length = (rM l).1 := a3
  unfold loadE headE rE
  simp only [Int.toNat_natCast, List.append_assoc]
  rw [g2, a2, ← g4, em]
  rw [show Cd.putU (rM2 l).1 ++ (rM2 l).2.1 = (rA l).2.1 from k2.symm]
  rw [show A.flatMap putTab ++ (rA l).2.1 = (rM l).2.1 from a4.symm, ea]
  rw [show Cd.putU (rM l).1 ++ (rM l).2.1 = (rN3 l).1 from m2.symm]
  rw [show Cd.putU (tkNum 4611686018427387904 (rN2 l)).1 ++ (rN3 l).1 = (rN2 l).1 from e1.symm]
  rw [show Cd.putU (tkNum 4611686018427387904 (rN1 l)).1 ++ (rN2 l).1 = (rN1 l).1 from e2.symm]
  exact e3
theorem dE_sound {l : Dat} (h1 : (dD l).2.2 = false) (h2 : (dD l).2.1 = []) : l = loadE (dE l) := by
  have N := dvNum_rds
  have K := dvSmall_rds 1000 (by decide)
  have h1' := h1
  unfold dD at h1'
  obtain ⟨g1, M, g2, g3, g4⟩ := goA_sound dDrop_rds (dM2 l).1 [] (dM2 l).2 h1'
  obtain ⟨k1, k2⟩ := K.sound (dA l).2 g1
  have k1' : (goA dTab (dM l).1 [] (dM l).2).2.2 = false := by unfold dA at k1; exact k1
  obtain ⟨a1, A, a2, a3, a4⟩ := goA_sound dTab_rds (dM l).1 [] (dM l).2 k1'
  obtain ⟨m1, m2⟩ := K.sound (dN3 l) a1
  obtain ⟨n1, e1⟩ := N.sound (dN2 l) m1
  obtain ⟨n2, e2⟩ := N.sound (dN1 l) n1
  obtain ⟨n3, e3⟩ := N.sound (l, false) n2
  have q1 : dD l = goA dDrop (dM2 l).1 [] (dM2 l).2 := by rw [dD]
  have q2 : dA l = goA dTab (dM l).1 [] (dM l).2 := by rw [dA]
  rw [← q1] at g2 g4
  rw [← q2] at a2 a4
  rw [List.nil_append] at g2 a2
  rw [h2, List.append_nil] at g4
  have em : M.length = (dM2 l).1 := g3
  have ea : A.length = (dM l).1 := a3
  unfold loadE headE dE
  simp only [Int.toNat_natCast, List.append_assoc]
  rw [g2, a2, ← g4, em]
  have k3 : (dA l).2.1 = Cd.putU (dM2 l).1 ++ (dM2 l).2.1 := by rw [dM2]; exact k2
  rw [← k3]
  rw [← a4, ea]
  have m3 : (dN3 l).1 = Cd.putU (dM l).1 ++ (dM l).2.1 := by rw [dM]; exact m2
  rw [← m3]
  rw [show Cd.putU (dvNum (dN2 l)).1 ++ (dN3 l).1 = (dN2 l).1 from e1.symm]
  rw [show Cd.putU (dvNum (dN1 l)).1 ++ (dN2 l).1 = (dN1 l).1 from e2.symm]
  exact e3
theorem rE_whole {e : Ed} (h : EOk e) (h1 : 0 ≤ e.next) (h2 : 0 ≤ e.seq) (h3 : 0 ≤ e.log) : (rD (loadE e)).2 = ([], false) ∧ rE (loadE e) = e := by
  have N := tkNum_rds 4611686018427387904 (by decide)
  have K := tkNum_rds 1000 (by decide)
  obtain ⟨l1, l2, l3, m1, m2, ad, dr⟩ := h
  obtain ⟨next, seq, log, A, D⟩ := e
  simp only at *
  obtain ⟨next, rfl⟩ := Int.eq_ofNat_of_zero_le h1
  obtain ⟨seq, rfl⟩ := Int.eq_ofNat_of_zero_le h2
  obtain ⟨log, rfl⟩ := Int.eq_ofNat_of_zero_le h3
  have e0 : loadE ⟨next, seq, log, A, D⟩ = Cd.putU next ++ (Cd.putU seq ++ (Cd.putU log ++ (Cd.putU A.length ++ (A.flatMap putTab ++ (Cd.putU D.length ++ (D.flatMap putD ++ [])))))) := by
    unfold loadE headE
    simp only [Int.toNat_natCast, List.append_assoc, List.append_nil]
  rw [e0]
  have q1 := N.whole next (Cd.putU seq ++ (Cd.putU log ++ (Cd.putU A.length ++ (A.flatMap putTab ++ (Cd.putU D.length ++ (D.flatMap putD ++ [])))))) (by omega)
  have q2 := N.whole seq (Cd.putU log ++ (Cd.putU A.length ++ (A.flatMap putTab ++ (Cd.putU D.length ++ (D.flatMap putD ++ []))))) (by omega)
  have q3 := N.whole log (Cd.putU A.length ++ (A.flatMap putTab ++ (Cd.putU D.length ++ (D.flatMap putD ++ [])))) (by omega)
  have q4 := K.whole A.length (A.flatMap putTab ++ (Cd.putU D.length ++ (D.flatMap putD ++ []))) (by omega)
  have q5 := goS_whole rTab_rds A [] (Cd.putU D.length ++ (D.flatMap putD ++ [])) (fun x hx => tab_ok (ad x hx))
  have q6 := K.whole D.length (D.flatMap putD ++ []) (by omega)
  have q7 := goS_whole rDrop_rds D [] [] (fun x hx => ⟨by have := dr x hx; omega, by have := dr x hx; omega⟩)
  unfold rE rD rM2 rA rM rN3 rN2 rN1
  rw [q1]
  simp only
  rw [q2]
  simp only
  rw [q3]
  simp only
  rw [q4]
  simp only
  rw [q5]
  simp only
  rw [q6]
  simp only
  rw [q7]
  simp
theorem dE_whole {e : Ed} (h : EOk e) (h1 : 0 ≤ e.next) (h2 : 0 ≤ e.seq) (h3 : 0 ≤ e.log) : (dD (loadE e)).2 = ([], false) ∧ dE (loadE e) = e := by
  have N := dvNum_rds
  have K := dvSmall_rds 1000 (by decide)
  obtain ⟨l1, l2, l3, m1, m2, ad, dr⟩ := h
  obtain ⟨next, seq, log, A, D⟩ := e
  simp only at *
  obtain ⟨next, rfl⟩ := Int.eq_ofNat_of_zero_le h1
  obtain ⟨seq, rfl⟩ := Int.eq_ofNat_of_zero_le h2
  obtain ⟨log, rfl⟩ := Int.eq_ofNat_of_zero_le h3
  have e0 : loadE ⟨next, seq, log, A, D⟩ = Cd.putU next ++ (Cd.putU seq ++ (Cd.putU log ++ (Cd.putU A.length ++ (A.flatMap putTab ++ (Cd.putU D.length ++ (D.flatMap putD ++ [])))))) := by
    unfold loadE headE
    simp only [Int.toNat_natCast, List.append_assoc, List.append_nil]
  rw [e0]
  have q1 := N.whole next (Cd.putU seq ++ (Cd.putU log ++ (Cd.putU A.length ++ (A.flatMap putTab ++ (Cd.putU D.length ++ (D.flatMap putD ++ [])))))) (by omega)
  have q2 := N.whole seq (Cd.putU log ++ (Cd.putU A.length ++ (A.flatMap putTab ++ (Cd.putU D.length ++ (D.flatMap putD ++ []))))) (by omega)
  have q3 := N.whole log (Cd.putU A.length ++ (A.flatMap putTab ++ (Cd.putU D.length ++ (D.flatMap putD ++ [])))) (by omega)
  have q4 := K.whole A.length (A.flatMap putTab ++ (Cd.putU D.length ++ (D.flatMap putD ++ []))) (by omega)
  have q5 := goA_whole dTab_rds A [] (Cd.putU D.length ++ (D.flatMap putD ++ [])) (fun x hx => by
    obtain ⟨t1, t2, t3, t4, t5, t6, t7, t8, t9, t10⟩ := tab_ok (ad x hx)
    exact ⟨t1, by omega, t3, t4, t5, t6, t7, t8, t9, t10⟩)
  have q6 := K.whole D.length (D.flatMap putD ++ []) (by omega)
  have q7 := goA_whole dDrop_rds D [] [] (fun x hx => ⟨by have := dr x hx; omega, by have := dr x hx; omega⟩)
  unfold dE dD dM2 dA dM dN3 dN2 dN1
  rw [q1]
  simp only
  rw [q2]
  simp only
  rw [q3]
  simp only
  rw [q4]
  simp only
  rw [q5]
  simp only
  rw [q6]
  simp only
  rw [q7]
  simp
theorem decR_iff {l : Dat} {e : Ed} : decR10 l = some e ↔ IsE l e := by
  constructor
  · intro h
    unfold decR10 at h
    split at h
    · rename_i hc
      obtain ⟨c1, c2, c3, c4⟩ := hc
      obtain rfl : rE l = e := by simpa using h
      exact ⟨c3, Int.natCast_nonneg _, Int.natCast_nonneg _, Int.natCast_nonneg _, rE_sound c1 c2⟩
    · cases h
  · rintro ⟨h1, h2, h3, h4, rfl⟩
    obtain ⟨g1, g2⟩ := rE_whole (eok h1) h2 h3 h4
    unfold decR10
    rw [if_pos ⟨by rw [g1], by rw [g1], by rw [g2]; exact h1, loadE_len (eok h1)⟩, g2]
theorem decD_iff {l : Dat} {e : Ed} : decD10 l = some e ↔ IsE l e := by
  constructor
  · intro h
    unfold decD10 at h
    split at h
    · rename_i hc
      obtain ⟨c1, c2, c3⟩ := hc
      obtain rfl : dE l = e := by simpa using h
      exact ⟨c3, Int.natCast_nonneg _, Int.natCast_nonneg _, Int.natCast_nonneg _, dE_sound c1 c2⟩
    · cases h
  · rintro ⟨h1, h2, h3, h4, rfl⟩
    obtain ⟨g1, g2⟩ := dE_whole (eok h1) h2 h3 h4
    unfold decD10
    rw [if_pos ⟨by rw [g1], by rw [g1], by rw [g2]; exact h1⟩, g2]
/-- both read the same -/
theorem dec_same (l : Dat) : decD10 l = decR10 l := by
  cases h : decR10 l with
  | some e => exact decD_iff.2 (decR_iff.1 h)
  | none =>
    cases h2 : decD10 l with
    | none => rfl
    | some e => rw [decR_iff.2 (decD_iff.1 h2)] at h; cases h
end Mf
end Go.Proofs.Ytpldfdlnhgmnaaa

/-
  The builtin copy of elements of several cells, onto a row of one's own.
-/
namespace Go.Proofs.Ytpldfdlnhgmnaaa
open Go.RowKit
namespace Cw
variable {P : Program}
theorem run_copy_wide (w : World) (dT sT ty elem : TypeId) (g n dCap : Nat) (a : Addr) (sCap sz : Nat) (cur : Array Value) (t : TypeId) (cs : List Value)
    (hu : P.underlying dT = some (.slice elem)) (hs : (P.info? elem).map (·.size) = some sz)
    (hg : w.heap[g]? = some (.cells cur t (0, 0))) (hn : cs.length = n * sz)
    (hsrc : ∀ j v, cs[j]? = some v → w.cell? (a.add j) = some v) (hfit : cs.length ≤ cur.size) (h1 : ∀ v ∈ cs, v.oneCell' = true) :
    (Builtin.copy_ #[dT, sT] ty #[.slice (some ⟨g, 0, none⟩) n dCap, .slice (some a) n sCap]).run P w =
      .ok (goInt n) (w.setRow g (cs ++ cur.toList.drop cs.length).toArray) := by
  have hl := run_loadCells_list (P := P) w a cs hsrc
  have hst := run_storeCells_at P g 0 t cs 0 cur w hg (by simpa using hfit) h1
  cases hq : P.info? elem with
  | none => simp [hq] at hs
  | some i =>
    have hi : i.size = sz := by simpa [hq] using hs
    simp [Builtin.copy_, run_underlying hu, Builtin.lenOf, Builtin.firstCells, sizeOf, typeInfo, hq, hi, ← hn, hl, hst]
theorem run_copy_zero (w : World) (dT sT ty elem : TypeId) (d a : Option Addr) (dCap sCap : Nat) (sz : Nat) (hu : P.underlying dT = some (.slice elem)) (hs : (P.info? elem).map (·.size) = some sz) :
    (Builtin.copy_ #[dT, sT] ty #[.slice d 0 dCap, .slice a 0 sCap]).run P w = .ok (goInt 0) w := by
  cases hq : P.info? elem with
  | none => simp [hq] at hs
  | some i =>
    have hl : ∀ (x : Addr), (loadCells x 0).run P w = .ok #[] w := fun x => by simpa using run_loadCells_list (P := P) w x [] (by simp)
    cases d <;> cases a <;> simp [Builtin.copy_, run_underlying hu, Builtin.lenOf, Builtin.firstCells, sizeOf, typeInfo, hq, storeCells, hl]
/-- a whole list of n elements onto a row of as many -/
theorem wpList_copy_wide {w : World} {ops : Array Oper} {rest : List Oper} {o : Oper} {a : Act} {Q : Exit → Act → World → Prop} (hgd : o.guard = none) (d s : Operand) (dT sT : TypeId)
    (ho : o.op = .call { callee := .builtin .copy, args := #[d, s], argTypes := #[dT, sT] }) (elem : TypeId) (sz : Nat) (hu : P.underlying dT = some (.slice elem)) (hsz : (P.info? elem).map (·.size) = some sz)
    (sp : Option Addr) (n dCap sCap : Nat) (g : Nat) (hd : a.eval d = .slice (some ⟨g, 0, none⟩) n dCap) (hs : a.eval s = .slice sp n sCap)
    (cur : List Value) (t : TypeId) (hg : w.heap[g]? = some (.cells cur.toArray t (0, 0))) (cs : List Value) (hn : cs.length = n * sz) (hcur : cur.length = n * sz)
    (hpos : 0 < n → ∃ ad, sp = some ad ∧ ∀ j v, cs[j]? = some v → w.cell? (ad.add j) = some v) (h1 : ∀ v ∈ cs, v.oneCell' = true) (B : Nat) (w0 : World) (hb : Below B w0 w) (hBg : B ≤ g)
    (h : ∀ w', Hid (w'.heap[g]? = some (.cells cs.toArray t (0, 0))) → Below B w0 w' → wpList P ops Q rest (a.put o.dst (goInt n)) w') :
    wpList P ops Q (o :: rest) a w := by
  by_cases h0 : n = 0
  · subst h0
    rw [Nat.zero_mul] at hn hcur
    obtain rfl := List.eq_nil_of_length_eq_zero hn
    obtain rfl := List.eq_nil_of_length_eq_zero hcur
    have hrun := run_copy_zero (P := P) w dT sT o.type elem (some ⟨g, 0, none⟩) sp dCap sCap sz hu hsz
    refine wpList_plain hgd fun K hK => ?_
    unfold Oper.wp
    simp [execOp, ho, resolve, invoke, builtin, hd, hs, hrun, Result.andThen]
    exact hK _ _ (h w hg hb)
  · obtain ⟨ad, rfl, hsrc⟩ := hpos (by omega)
    have hrun := run_copy_wide (P := P) w dT sT o.type elem g n dCap ad sCap sz cur.toArray t cs hu hsz hg hn hsrc (by simp; omega) h1
    have hdrop : cur.drop cs.length = [] := List.drop_eq_nil_of_le (by omega)
    refine wpList_plain hgd fun K hK => ?_
    unfold Oper.wp
    simp [execOp, ho, resolve, invoke, builtin, hd, hs, hrun, Result.andThen, hdrop]
    exact hK _ _ (h _ (show _ = _ from setRow_heap w g _ _ t _ hg) (below_setRow hb hBg _))
end Cw
end Go.Proofs.Ytpldfdlnhgmnaaa
