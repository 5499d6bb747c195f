import Derived.RangeFuncNested
import Derived.RangeFuncLeaves
import Derived.RangeFuncBox
import Derived.Below
import Derived.Deep.Draws
import Derived.WalkSmall
import Derived.WalkKit
import Derived.WalkLawsBesides
import Derived.BigQuiet
import Derived.Deep.QuietTactic
import Derived.Deep.LoopGhost
import Derived.LoopTactic
import Derived.Test.YtpldfdlnhgmnaaaProg
import Derived.OwnWalk
import Derived.Lib.Hide
import Derived.Deep.RegionLaw
import Derived.Deep.RegionHeld3
import Derived.Deep.CutBlock
import Derived.Deep.CutRange
import Derived.Deep.Cut
import Derived.Test.YtpldfdlnhgmnaaaPart1
/-
  Ranges over a function whose iterator has state of its own, in cells and in loops within it: what an iterator owes, what its caller owes.
  The blocks that are private to the iterator (and to the loop's book-keeping) are told by name: a set R that grows.
-/
namespace Go.Proofs.Ytpldfdlnhgmnaaa
open Go.RowKit
set_option linter.unusedVariables false
namespace Sq

abbrev Blocks := Nat → Prop

/-- of the blocks of T that lay none has turned -/
structure Kept (T : Blocks) (w w' : World) : Prop where
  os : w'.os = w.os
  tape : w'.tape = w.tape
  output : w'.output = w.output
  size : w.heap.size ≤ w'.heap.size
  block : ∀ k, T k → k < w.heap.size → w'.heap[k]? = w.heap[k]?

theorem Kept.refl (T : Blocks) (w : World) : Kept T w w := ⟨rfl, rfl, rfl, Nat.le_refl _, fun _ _ _ => rfl⟩
theorem Kept.trans {T : Blocks} {a b c : World} (h : Kept T a b) (k : Kept T b c) : Kept T a c :=
  ⟨k.os.trans h.os, k.tape.trans h.tape, k.output.trans h.output, Nat.le_trans h.size k.size, fun i hi hl => (k.block i hi (Nat.lt_of_lt_of_le hl h.size)).trans (h.block i hi hl)⟩
theorem Kept.less {T T' : Blocks} {a b : World} (h : Kept T a b) (hT : ∀ k, T' k → k < a.heap.size → T k) : Kept T' a b :=
  ⟨h.os, h.tape, h.output, h.size, fun i hi hl => h.block i (hT i hi hl) hl⟩
theorem Kept.alloc (T : Blocks) (w : World) (o : Obj) : Kept T w (w.alloc o) :=
  ⟨rfl, rfl, rfl, by simp, fun k _ hl => Below.heap_alloc _ _ _ hl⟩
theorem Kept.drew (T : Blocks) (w : World) : Kept T w w.drew := ⟨rfl, rfl, rfl, Nat.le_refl _, fun _ _ _ => rfl⟩
theorem Kept.drewN (T : Blocks) (w : World) (n : Nat) : Kept T w (w.drewN n) := ⟨rfl, rfl, rfl, Nat.le_refl _, fun _ _ _ => rfl⟩
theorem Kept.setCell {T : Blocks} (w : World) {p : Addr} (v : Value) (h : ¬ T p.block) : Kept T w (w.setCell p v) :=
  ⟨rfl, rfl, rfl, by simp [World.setCell], fun k hk _ => Below.heap_setCell _ _ _ _ (fun e => h (e ▸ hk))⟩
theorem Kept.putObj {T : Blocks} (w : World) {l : Nat} (o : Obj) (h : ¬ T l) : Kept T w (w.putObj l o) :=
  ⟨rfl, rfl, rfl, by simp, fun k hk _ => World.putObj_heap_other (fun e => h (e ▸ hk))⟩
theorem Kept.grown {T : Blocks} {w w' : World} {row : Option Nat} (hg : w.grownBy w' row) (h : ∀ r, row = some r → ¬ T r) : Kept T w w' :=
  ⟨hg.os, hg.tape, hg.output, hg.size, fun k hk hl => hg.block k hl (fun e => h k e.symm hk)⟩
theorem Kept.of_below {T : Blocks} {w w' : World} (h : Below w.heap.size w w') : Kept T w w' :=
  ⟨h.os, h.tape, h.output, h.size, fun k _ hl => h.block k hl⟩
theorem Kept.below {T : Blocks} {w w' : World} {B : Nat} (h : Kept T w w') (hT : ∀ k, k < B → T k) (hB : B ≤ w.heap.size) : Below B w w' :=
  ⟨h.os, h.tape, h.output, h.size, fun k hk => h.block k (hT k hk) (Nat.lt_of_lt_of_le hk hB)⟩
theorem Kept.cell {T : Blocks} {w w' : World} (h : Kept T w w') {p : Addr} {v : Value} (hT : T p.block) (hc : w.cell? p = some v) : w'.cell? p = some v := by
  have hl : p.block < w.heap.size := by
    obtain ⟨o, ho, _⟩ := cells_of_cell hc
    exact (Array.getElem?_eq_some_iff.1 ho).1
  rw [← hc]
  exact World.cell?_of_block (w := w) (h.block _ hT hl)
theorem Kept.boxed {T : Blocks} {w w' : World} (h : Kept T w w') {B : Nat} {t : TypeId} {v : Value} (hT : T B) (hb : Boxed w B t v) : Boxed w' B t v := (h.block B hT hb.lt).trans hb

/-- A STEP OF THE ITERATOR's OWN: of what lay only blocks of R have turned; R' is R and new blocks. -/
structure Step (R R' : Blocks) (w w' : World) : Prop where
  kept : Kept (fun k => ¬ R k) w w'
  sub : ∀ k, R k → R' k
  new : ∀ k, R' k → R k ∨ w.heap.size ≤ k

theorem Step.refl (R : Blocks) (w : World) : Step R R w w := ⟨Kept.refl _ _, fun _ h => h, fun _ h => .inl h⟩
theorem Step.alloc (R : Blocks) (w : World) (o : Obj) : Step R (fun k => R k ∨ k = w.heap.size) w (w.alloc o) :=
  ⟨Kept.alloc _ _ _, fun _ h => .inl h, fun _ h => h.elim .inl (fun e => .inr (Nat.le_of_eq e.symm))⟩
theorem Step.alloc0 (R : Blocks) (w : World) (o : Obj) : Step R R w (w.alloc o) := ⟨Kept.alloc _ _ _, fun _ h => h, fun _ h => .inl h⟩
theorem Step.below {R : Blocks} {w w' : World} (h : Below w.heap.size w w') : Step R R w w' := ⟨Kept.of_below h, fun _ h => h, fun _ h => .inl h⟩
theorem Step.setCell {R : Blocks} (w : World) {p : Addr} (v : Value) (h : R p.block) : Step R R w (w.setCell p v) := ⟨Kept.setCell _ _ (fun hn => hn h), fun _ h => h, fun _ h => .inl h⟩
theorem Step.putObj {R : Blocks} (w : World) {l : Nat} (o : Obj) (h : R l) : Step R R w (w.putObj l o) := ⟨Kept.putObj _ _ (fun hn => hn h), fun _ h => h, fun _ h => .inl h⟩
theorem Step.drew (R : Blocks) (w : World) : Step R R w w.drew := ⟨Kept.drew _ _, fun _ h => h, fun _ h => .inl h⟩
theorem Step.trans {R R' R'' : Blocks} {a b c : World} (h : Step R R' a b) (k : Step R' R'' b c) : Step R R'' a c :=
  ⟨⟨k.kept.os.trans h.kept.os, k.kept.tape.trans h.kept.tape, k.kept.output.trans h.kept.output, Nat.le_trans h.kept.size k.kept.size, fun i hi hl =>
      (k.kept.block i (fun hr => (h.new i hr).elim hi (fun h2 => by omega)) (Nat.lt_of_lt_of_le hl h.kept.size)).trans (h.kept.block i hi hl)⟩,
    fun i hi => k.sub i (h.sub i hi), fun i hi => (k.new i hi).elim (h.new i) (fun hl => .inr (Nat.le_trans h.kept.size hl))⟩

/-- what the caller says abides every step of the iterator's own -/
def Steady {β : Type} (J : Blocks → β → World → Prop) : Prop := ∀ R R' s W W', J R s W → Step R R' W W' → J R' s W'

theorem Steady.and {β : Type} {J J' : Blocks → β → World → Prop} (h : Steady J) (h' : Steady J') : Steady (fun R s W => J R s W ∧ J' R s W) :=
  fun R R' s W W' hs st => ⟨h R R' s W W' hs.1 st, h' R R' s W W' hs.2 st⟩
theorem Steady.ex {β γ : Type} {J : γ → Blocks → β → World → Prop} (h : ∀ c, Steady (J c)) : Steady (fun R s W => ∃ c, J c R s W) :=
  fun R R' s W W' ⟨c, hs⟩ st => ⟨c, h c R R' s W W' hs st⟩
theorem Steady.pure {β : Type} (p : β → Prop) : Steady (fun _ s (_ : World) => p s) := fun _ _ _ _ _ hs _ => hs
theorem Steady.no {β : Type} : Steady (fun _ (_ : β) (_ : World) => False) := fun _ _ _ _ _ hs _ => hs
theorem step_not {R R' : Blocks} {W W' : World} (st : Step R R' W W') {b : Nat} (hl : b < W.heap.size) (hn : ¬ R b) : ¬ R' b :=
  fun h => (st.new b h).elim hn (fun h2 => by omega)
theorem step_obj {R R' : Blocks} {W W' : World} (st : Step R R' W W') {b : Nat} {o : Obj} (ho : W.heap[b]? = some o) (hn : ¬ R b) : W'.heap[b]? = some o ∧ ¬ R' b :=
  ⟨(st.kept.block b hn (Array.getElem?_eq_some_iff.1 ho).1).trans ho, step_not st (Array.getElem?_eq_some_iff.1 ho).1 hn⟩
theorem Steady.obj {β : Type} (b : Nat) (o : β → Obj) : Steady (fun R s W => W.heap[b]? = some (o s) ∧ ¬ R b) := fun _ _ _ _ _ hs st => step_obj st hs.1 hs.2
theorem Steady.box {β : Type} (b : Nat) (t : TypeId) (v : β → Value) : Steady (fun R s W => Boxed W b t (v s) ∧ ¬ R b) := fun _ _ _ _ _ hs st => step_obj st hs.1 hs.2
theorem Steady.kept {β : Type} (T : Blocks) (w : World) : Steady (fun R (_ : β) W => Kept T w W ∧ ∀ k, T k → k < w.heap.size → ¬ R k) := fun R R' s W W' hs st =>
  ⟨⟨st.kept.os.trans hs.1.os, st.kept.tape.trans hs.1.tape, st.kept.output.trans hs.1.output, Nat.le_trans hs.1.size st.kept.size, fun k hk hl =>
      (st.kept.block k (hs.2 k hk hl) (Nat.lt_of_lt_of_le hl hs.1.size)).trans (hs.1.block k hk hl)⟩,
    fun k hk hl hr => step_not st (Nat.lt_of_lt_of_le hl hs.1.size) (hs.2 k hk hl) hr⟩
theorem Steady.row {β : Type} (n₀ : Nat) (e : TypeId) (size : Nat) (v : β → Value) (n : β → Nat) (f : β → List Value) :
    Steady (fun R s W => W.ownsRow n₀ e size (v s) (n s) (f s) ∧ ∀ g, (v s).ownBlock = some g → ¬ R g) := by
  rintro R R' s W W' ⟨hs, hn⟩ st
  rcases hs with ⟨h0, h1 | ⟨g, cap, cur, h1, h2, h3, h4⟩⟩
  · exact ⟨⟨h0, .inl h1⟩, fun g hg => by rw [h1.1] at hg; simp [Value.ownBlock] at hg⟩
  · have hg : ¬ R g := hn g (by rw [h1]; rfl)
    obtain ⟨k1, k2⟩ := step_obj st h3 hg
    refine ⟨⟨h0, .inr ⟨g, cap, cur, h1, h2, k1, h4⟩⟩, fun g' hg' => ?_⟩
    rw [h1] at hg'
    obtain rfl : g = g' := by simpa [Value.ownBlock] using hg'
    exact k2

theorem Step.or {R R' : Blocks} {X Y : World} (M : Blocks) (st : Step R R' X Y) : Step (fun k => R k ∨ M k) (fun k => R' k ∨ M k) X Y :=
  ⟨st.kept.less fun k hk _ h => hk (.inl h), fun k h => h.elim (fun h => .inl (st.sub k h)) .inr, fun k h => h.elim (fun h => (st.new k h).elim (fun h => .inl (.inl h)) .inr) (fun h => .inl (.inr h))⟩
theorem Steady.or {β γ : Type} {J : Blocks → β → World → Prop} (h : Steady J) (M : Blocks) (f : γ → β) : Steady (fun R s W => J (fun k => R k ∨ M k) (f s) W) :=
  fun _ _ _ _ _ hs st => h _ _ _ _ _ hs (st.or M)

theorem room_none {F : Fence} (hd : F.depth = none) (k : Nat) : F.room k := fun d h => by rw [hd] at h; cases h
/-- where no depth is asked the figures are all one -/
theorem anyDepth {F : Fence} (hd : F.depth = none) {m : Nat} (m' : Nat) {P : Program} {l : Nat} {args : Array Value} {W : World} {R : Ending → World → Prop} (h : YieldAt F m P l args W R) : YieldAt F m' P l args W R := by
  obtain ⟨fn, tmps, assign, body, hy, hR⟩ := h
  exact ⟨fn, tmps, assign, body, hy, hR.1, fun c cs _ => hR.2 c cs (room_none hd _)⟩

theorem round_in {F : Fence} {m : Nat} {P : Program} {l f : Nat} {tmps : Array Value} {assign body : Code} {w : World} {R : Ending → World → Prop} (lr : Nat) (h : RoundIn F m P l f tmps assign body w R) : RoundIn (F.inRound lr) m P l f tmps assign body w R := h

/-- WHAT AN ITERATOR OWES: called at whatever loop's yield, it hands on a row's elements one by one: S of all, Sp of each beginning. T: the blocks that it reads and does not write. -/
def SeqC {α : Type} (F : Fence) (n : Nat) (P : Program) (g : Nat) (lb : Array Value) (encs : α → Array Value) (T : Blocks) (S Sp : List α → Prop) (w : World) : Prop :=
  ∀ (l : Nat) (J Jx : Blocks → List α → World → Prop) (W : World), Kept T w W → Steady J → Steady Jx →
    (∀ R pre x W1, J R pre W1 → (∀ k, R k → W.heap.size ≤ k ∧ k < W1.heap.size) → Sp (pre ++ [x]) → YieldAt F (n - 1) P l (encs x) W1 fun e W' =>
      (e = .returned (.bool true) ∧ J R (pre ++ [x]) W' ∧ Kept (fun k => R k ∨ T k) W1 W') ∨ (e = .returned (.bool false) ∧ Jx R (pre ++ [x]) W' ∧ Kept (fun k => R k ∨ T k) W1 W')) →
    J (fun _ => False) [] W →
    CallsIn F n P g (#[.func (.yield l) #[] #[]] ++ lb) W fun e W' => (∃ v, e = .returned v) ∧ ((∃ xs R, S xs ∧ J R xs W') ∨ (∃ pre R, Sp pre ∧ Jx R pre W'))

/-- HOW THE BODY OF A ROUND MAY BE LEFT. -/
def post {α : Type} (T : Blocks) (I : Blocks → List α → World → Prop) (Ix : Code → Blocks → List α → World → Prop) (R : Blocks) (xs : List α) (W : World) : Exit → Act → World → Prop
  | .normal, _, W' => Kept (fun k => R k ∨ T k) W W' ∧ I R xs W'
  | .ret, _, W' => Kept (fun k => R k ∨ T k) W W' ∧ Ix .ret R xs W'
  | .exit id, _, W' => Kept (fun k => R k ∨ T k) W W' ∧ Ix (.exit id) R xs W'
  | .goto t, _, W' => Kept (fun k => R k ∨ T k) W W' ∧ Ix (.goto t) R xs W'
  | .panic _, _, _ => False
  | .outgrown, _, _ => False

variable {F : Fence} {n : Nat} {P : Program}

/-- THE STATEMENT 'for .. := range seq { body }', outside of every other such loop's round. -/
theorem wp_range {α : Type} {g : Operand} {ps : Array Tmp} {assign body : Code} {Q : Exit → Act → World → Prop} {a : Act} {w : World}
    (hro : F.round = none) (h1 : 1 ≤ n) {gf : Nat} {lb : Array Value} (hg : a.eval g = .func (.func gf) #[] lb) (hFg : F.fn gf) (eg : ∀ args w, (callFunc gf args).run P w = .ok (.enter gf args) w)
    {encs : α → Array Value} {T : Blocks} {S Sp : List α → Prop} (hseq : SeqC F (n - 1) P gf lb encs T S Sp w) (hT : ∀ k, T k → k < w.heap.size) (hps : ∀ x, (encs x).size = ps.size)
    (I : Blocks → List α → World → Prop) (Ix : Code → Blocks → List α → World → Prop) (Ia : Act → α → Blocks → List α → World → Prop)
    (hI : Steady I) (hIx : ∀ c, Steady (Ix c)) (hIa : ∀ a' x, Steady (Ia a' x)) (h0 : I (fun _ => False) [] w)
    (hassign : ∀ (l : Nat) (R : Blocks) (pre : List α) (x : α) (W : World), (∀ k, R k → w.heap.size ≤ k ∧ k < W.heap.size) → Sp (pre ++ [x]) → I R pre W →
      assign.wpIn (F.inRound l) (n - 1 - 1) P (Exit.then (fun a' W' => Kept (fun k => R k ∨ T k) W W' ∧ Ia a' x R pre W') (fun _ _ _ => False)) { tmps := (ps.zip (encs x)).foldl (fun t (p, v) => t.setIfInBounds p v) a.tmps, defers := [] } W)
    (hbody : ∀ (l : Nat) (R : Blocks) (pre : List α) (x : α) (a' : Act) (W : World), R l → (∃ r, W.heap[l]? = some (.loop r)) → (∀ k, R k → w.heap.size ≤ k ∧ k < W.heap.size) → Sp (pre ++ [x]) → Ia a' x R pre W →
      body.wpIn (F.inRound l) (n - 1 - 1) P (post T I Ix R (pre ++ [x]) W) a' W)
    (hdone : ∀ (D : Nat) (R : Blocks) (xs : List α) (W : World), w.heap.size ≤ D → R D → S xs → I R xs W → W.heap[D]? = some (.deferred (some [])) → Q .normal { a with defers := { target := .collected D, args := #[] } :: a.defers } W)
    (hstop : ∀ (D : Nat) (R : Blocks) (c : Code) (pre : List α) (W : World), w.heap.size ≤ D → R D → Sp pre → Ix c R pre W → W.heap[D]? = some (.deferred (some [])) → c.wpIn F n P Q { a with defers := { target := .collected D, args := #[] } :: a.defers } W) :
    (Code.rangeFunc g ps assign body).wpIn F n P Q a w := by
  refine wpIn_rangeFunc ?_
  intro fn hfn
  rw [hro]
  obtain ⟨rec, hrec⟩ : ∃ rec : LoopState → Option Code → Loop, rec = fun st pe => { state := st, pending := pe, fn, tmps := a.tmps, params := ps, assign, body, defers := w.heap.size } := ⟨_, rfl⟩
  obtain ⟨D, hD⟩ : ∃ D, D = w.heap.size := ⟨_, rfl⟩
  obtain ⟨W1, hW1⟩ : ∃ W1, (w.alloc (.deferred (some []))).alloc (.loop (rec .ready none)) = W1 := ⟨_, rfl⟩
  have hsz1 : W1.heap.size = D + 2 := by rw [← hW1]; simp; omega
  -- the blocks of the book-keeping beside those of the iterator's
  let R2 : Blocks → Blocks := fun R k => R k ∨ (k = D ∨ k = D + 1)
  have st0 : Step (fun _ => False) (R2 fun _ => False) w W1 := by
    rw [← hW1]
    refine ⟨(Kept.alloc _ _ _).trans (Kept.alloc _ _ _), fun _ h => h.elim, fun k h => ?_⟩
    rcases h with h | h | h
    · exact h.elim
    · exact .inr (by omega)
    · exact .inr (by omega)
  have hL1 : W1.heap[D + 1]? = some (.loop (rec .ready none)) := by
    rw [← hW1]; have := World.alloc_heap_new (w.alloc (.deferred (some []))) (.loop (rec .ready none)); rw [World.size_alloc, ← hD] at this; exact this
  have hK1 : W1.heap[D]? = some (.deferred (some [])) := by
    rw [← hW1, hD]; exact (Below.heap_alloc _ _ _ (by simp)).trans (World.alloc_heap_new w _)
  have hkT : Kept T w W1 := by rw [← hW1]; exact (Kept.alloc _ _ _).trans (Kept.alloc _ _ _)
  have step2 : ∀ {R R' : Blocks} {X Y : World}, Step R R' X Y → Step (R2 R) (R2 R') X Y := fun st =>
    ⟨st.kept.less fun k hk _ h => hk (.inl h), fun k h => h.elim (fun h => .inl (st.sub k h)) .inr, fun k h => h.elim (fun h => (st.new k h).elim (fun h => .inl (.inl h)) .inr) (fun h => .inl (.inr h))⟩
  refine ⟨D + 1, [{ target := .collected D, args := #[] }], W1, { target := .fn (.func gf) lb, args := #[.func (.yield (D + 1)) #[] #[]] }, W1, gf,
    #[.func (.yield (D + 1)) #[] #[]] ++ lb, W1, ?_, ?_, ?_, ?_, fun _ => h1, ?_⟩
  · rw [← hW1, hrec, hD]; exact run_enterLoop_outer _ _ _ _ _
  · simp only [resolve, hg]
    simp [go_sem]
  · intro f' hf'; simp [Target.leads] at hf'; subst hf'; exact hFg
  · simp [invoke, go_sem, eg]
  · refine (hseq (D + 1)
      (fun R pre W => I (R2 R) pre W ∧ (W.heap[D + 1]? = some (.loop (rec .ready none)) ∧ ¬ R (D + 1)) ∧ (W.heap[D]? = some (.deferred (some [])) ∧ ¬ R D))
      (fun R pre W => ∃ c, Ix c (R2 R) pre W ∧ (W.heap[D + 1]? = some (.loop (rec .done (some c))) ∧ ¬ R (D + 1)) ∧ (W.heap[D]? = some (.deferred (some [])) ∧ ¬ R D))
      W1 hkT
      (fun R R' s X Y hs st => ⟨hI _ _ _ _ _ hs.1 (step2 st), step_obj st hs.2.1.1 hs.2.1.2, step_obj st hs.2.2.1 hs.2.2.2⟩)
      (fun R R' s X Y ⟨c, hs⟩ st => ⟨c, hIx c _ _ _ _ _ hs.1 (step2 st), step_obj st hs.2.1.1 hs.2.1.2, step_obj st hs.2.2.1 hs.2.2.2⟩)
      ?_ ⟨hI _ _ _ _ _ h0 st0, ⟨hL1, fun h => h⟩, ⟨hK1, fun h => h⟩⟩).mono ?_
    · -- one round
      rintro R pre x W ⟨hi, ⟨hl, hnl⟩, ⟨hk, hnk⟩⟩ hbd hsp
      have hlt : D + 1 < W.heap.size := (Array.getElem?_eq_some_iff.1 hl).1
      have hbd2 : ∀ (X : World), W.heap.size ≤ X.heap.size → ∀ k, R2 R k → w.heap.size ≤ k ∧ k < X.heap.size := fun X hX k h => by
        rcases h with h | h | h
        · have := hbd k h; omega
        · omega
        · omega
      have hy := run_yield (P := P) (args := encs x) hl (by rw [hrec]; exact hps x)
      rw [hrec] at hy
      refine ⟨fn, _, assign, body, hy, roundIn_of_wpIn hfn ?_⟩
      clear hy
      refine wpIn_mono (hassign (D + 1) (R2 R) pre x W (hbd2 W (Nat.le_refl _)) hsp hi) ?_
      rintro e a' Wa hpost
      cases e with
      | normal =>
        obtain ⟨hka, hia⟩ := hpost
        have hla : Wa.heap[D + 1]? = some (.loop (rec .ready none)) := (hka.block (D + 1) (.inl (.inr (.inr rfl))) hlt).trans hl
        have hka2 : Wa.heap[D]? = some (.deferred (some [])) := (hka.block D (.inl (.inr (.inl rfl))) (by omega)).trans hk
        have hlta : D + 1 < Wa.heap.size := (Array.getElem?_eq_some_iff.1 hla).1
        refine ⟨_, run_beginRound hla (by rw [hrec]), ?_⟩
        obtain ⟨Wb, hWb⟩ : ∃ Wb, Wa.putObj (D + 1) (.loop { rec .ready none with state := .busy }) = Wb := ⟨_, rfl⟩
        have hlb : Wb.heap[D + 1]? = some (.loop { rec .ready none with state := .busy }) := by rw [← hWb]; exact World.putObj_heap_same hlta
        have hkb : Wb.heap[D]? = some (.deferred (some [])) := by rw [← hWb]; exact (World.putObj_heap_other (by omega)).trans hka2
        have hszb : Wb.heap.size = Wa.heap.size := by rw [← hWb]; simp
        have keptb : ∀ T' : Blocks, ¬ T' (D + 1) → Kept T' Wa Wb := fun T' h => by rw [← hWb]; exact Kept.putObj _ _ h
        have hib := hIa a' x _ _ _ _ _ hia (show Step (R2 R) (R2 R) Wa Wb by rw [← hWb]; exact Step.putObj (R := R2 R) Wa _ (.inr (.inr rfl)))
        have hbody' := hbody (D + 1) (R2 R) pre x a' Wb (.inr (.inr rfl)) ⟨_, hlb⟩ (hbd2 Wb (by rw [hszb]; exact hka.size)) hsp hib
        show Code.wpIn _ _ _ _ _ _ _
        rw [hWb]
        refine wpIn_mono hbody' ?_
        have hnT : ¬ (fun k => R k ∨ T k) (D + 1) := fun h => h.elim hnl (fun h => by have := hT _ h; omega)
        have fin : ∀ (jump : Option Code) (W3 : World), Kept (fun k => R2 R k ∨ T k) Wb W3 →
            (Instr.endRound (D + 1) jump).run P W3 = .ok (.bool jump.isNone) (W3.putObj (D + 1) (.loop (rec (if jump.isNone then .ready else .done) jump))) ∧
            (W3.putObj (D + 1) (.loop (rec (if jump.isNone then .ready else .done) jump))).heap[D + 1]? = some (.loop (rec (if jump.isNone then .ready else .done) jump)) ∧
            (W3.putObj (D + 1) (.loop (rec (if jump.isNone then .ready else .done) jump))).heap[D]? = some (.deferred (some [])) ∧
            Kept (fun k => R k ∨ T k) W (W3.putObj (D + 1) (.loop (rec (if jump.isNone then .ready else .done) jump))) := fun jump W3 hk3 => by
          have hl3 := (hk3.block (D + 1) (.inl (.inr (.inr rfl))) (by omega)).trans hlb
          have := run_endRound (P := P) jump hl3
          rw [hrec] at this
          refine ⟨by rw [hrec]; exact this, World.putObj_heap_same (Array.getElem?_eq_some_iff.1 hl3).1, (World.putObj_heap_other (by omega)).trans ((hk3.block D (.inl (.inr (.inl rfl))) (by omega)).trans hkb), ?_⟩
          refine ((hka.less ?_).trans (keptb _ hnT)).trans ((hk3.less ?_).trans (Kept.putObj _ _ hnT))
          · exact fun k h _ => h.elim (fun h => .inl (.inl h)) .inr
          · exact fun k h _ => h.elim (fun h => .inl (.inl h)) .inr
        rintro e a3 W3 hp
        cases e with
        | normal =>
          obtain ⟨hk3, hi3⟩ := hp
          obtain ⟨hr, hl4, hk4, hkk⟩ := fin none W3 hk3
          exact ⟨_, _, hr, .inl ⟨rfl, ⟨hI _ _ _ _ _ hi3 (Step.putObj _ _ (.inr (.inr rfl))), ⟨hl4, hnl⟩, ⟨hk4, hnk⟩⟩, hkk⟩⟩
        | ret =>
          obtain ⟨hk3, hi3⟩ := hp
          obtain ⟨hr, hl4, hk4, hkk⟩ := fin (some .ret) W3 hk3
          exact ⟨_, _, hr, .inr ⟨rfl, ⟨.ret, hIx _ _ _ _ _ _ hi3 (Step.putObj _ _ (.inr (.inr rfl))), ⟨hl4, hnl⟩, ⟨hk4, hnk⟩⟩, hkk⟩⟩
        | exit id =>
          obtain ⟨hk3, hi3⟩ := hp
          obtain ⟨hr, hl4, hk4, hkk⟩ := fin (some (.exit id)) W3 hk3
          exact ⟨_, _, hr, .inr ⟨rfl, ⟨.exit id, hIx _ _ _ _ _ _ hi3 (Step.putObj _ _ (.inr (.inr rfl))), ⟨hl4, hnl⟩, ⟨hk4, hnk⟩⟩, hkk⟩⟩
        | goto t =>
          obtain ⟨hk3, hi3⟩ := hp
          obtain ⟨hr, hl4, hk4, hkk⟩ := fin (some (.goto t)) W3 hk3
          exact ⟨_, _, hr, .inr ⟨rfl, ⟨.goto t, hIx _ _ _ _ _ _ hi3 (Step.putObj _ _ (.inr (.inr rfl))), ⟨hl4, hnl⟩, ⟨hk4, hnk⟩⟩, hkk⟩⟩
        | panic ch => exact hp.elim
        | outgrown => exact hp.elim
      | ret => exact hpost.elim
      | exit id => exact hpost.elim
      | goto t => exact hpost.elim
      | panic ch => exact hpost.elim
      | outgrown => exact hpost.elim
    · -- behind the iterator
      rintro e W2 ⟨⟨v, rfl⟩, (⟨xs, R, hS, hi, ⟨hl, hnl⟩, ⟨hk, hnk⟩⟩ | ⟨pre, R, hSp, c, hi, ⟨hl, hnl⟩, ⟨hk, hnk⟩⟩)⟩
      · exact ⟨none, _, by have := run_endLoop (P := P) hl (by rw [hrec]; simp); rw [hrec] at this; exact this,
          hdone D (R2 R) xs _ (by omega) (.inr (.inl rfl)) hS (hI _ _ _ _ _ hi (Step.putObj _ _ (.inr (.inr rfl)))) ((World.putObj_heap_other (by omega)).trans hk)⟩
      · exact ⟨some c, _, by have := run_endLoop (P := P) hl (by rw [hrec]; simp); rw [hrec] at this; exact this,
          hstop D (R2 R) c pre _ (by omega) (.inr (.inl rfl)) hSp (hIx c _ _ _ _ _ hi (Step.putObj _ _ (.inr (.inr rfl)))) ((World.putObj_heap_other (by omega)).trans hk)⟩

/-- what a function that has left several such loops owes at its return -/
abbrev mark (D : Nat) : Deferred := { target := .collected D, args := #[] }
theorem leaves_marks {fn : Func} {tmps : Array Value} {R : Ending → World → Prop} : ∀ (Ds : List Nat) (W : World), Ds.Nodup → (∀ D ∈ Ds, W.heap[D]? = some (.deferred (some []))) →
    (∀ W', Kept (fun k => k ∉ Ds) W W' → LeavesIn F n P fn tmps R [] .returning W') → LeavesInM F n P fn tmps R (Ds.map mark) .returning W
  | [], W, _, _, h => h W (Kept.refl _ _)
  | D :: Ds, W, hnd, hW, h => by
    have hnd' := List.nodup_cons.1 hnd
    refine ⟨by simp, .inl ⟨D, _, rfl, run_takeDeferred (hW D (List.mem_cons_self ..)), ?_⟩⟩
    refine leaves_marks Ds _ hnd'.2 (fun E hE => ?_) (fun W' hk => h W' ?_)
    · exact (World.putObj_heap_other (fun e => by subst e; exact hnd'.1 hE)).trans (hW E (List.mem_cons_of_mem _ hE))
    · exact (Kept.putObj W _ (fun hn => hn (List.mem_cons_self ..))).trans (hk.less fun k hk _ hm => hk (List.mem_cons_of_mem _ hm))

/-- a row that is owned, by cases -/
theorem row_cases {w : World} {base : Nat} {e : TypeId} {size : Nat} {v : Value} {m : Nat} {xs : List Value} (h : w.ownsRow base e size v m xs) :
    ∃ ao cap, v = .slice ao m cap ∧ (0 < m → ∃ g, ao = some ⟨g, 0, none⟩ ∧ base ≤ g ∧ g < w.heap.size) := by
  rcases h.2 with ⟨rfl, rfl⟩ | ⟨g, cap, cur, rfl, h2, h3, _⟩
  · exact ⟨none, 0, rfl, fun h => by omega⟩
  · exact ⟨_, cap, rfl, fun _ => ⟨g, rfl, h2, (Array.getElem?_eq_some_iff.1 h3).1⟩⟩
theorem row_kept {T : Blocks} {w w' : World} {base : Nat} {e : TypeId} {size : Nat} {v : Value} {m : Nat} {xs : List Value} (h : w.ownsRow base e size v m xs) (hk : Kept T w w') (hT : ∀ g, v.ownBlock = some g → T g) :
    w'.ownsRow base e size v m xs := by
  rcases h with ⟨h0, h1 | ⟨g, cap, cur, h1, h2, h3, h4⟩⟩
  · exact ⟨h0, .inl h1⟩
  · exact ⟨h0, .inr ⟨g, cap, cur, h1, h2, (hk.block g (hT g (by rw [h1]; rfl)) (Array.getElem?_eq_some_iff.1 h3).1).trans h3, h4⟩⟩
end Sq
end Go.Proofs.Ytpldfdlnhgmnaaa

/-
  An object in a block of its own: its cells, a store into one, and what keeps it.
-/
namespace Go.Proofs.Ytpldfdlnhgmnaaa
open Go.RowKit
set_option linter.unusedVariables false
namespace Ob

/-- block b is an object of type t whose cells are cs -/
def Obj (W : World) (b : Nat) (t : TypeId) (cs : List Value) : Prop := W.heap[b]? = some (.cells cs.toArray t (0, 0))

theorem Obj.lt {W : World} {b : Nat} {t : TypeId} {cs : List Value} (h : Obj W b t cs) : b < W.heap.size := (Array.getElem?_eq_some_iff.1 h).1
theorem Obj.cell {W : World} {b : Nat} {t : TypeId} {cs : List Value} (h : Obj W b t cs) (j : Nat) : W.cell? ⟨b, j, none⟩ = cs[j]? := by simp [World.cell?, show W.heap[b]? = _ from h]
theorem Obj.frozen {W : World} {b : Nat} {t : TypeId} {cs : List Value} (h : Obj W b t cs) (j : Nat) : W.frozen? ⟨b, j, none⟩ = false := by simp [World.frozen?, show W.heap[b]? = _ from h]
theorem Obj.new (W : World) (t : TypeId) (cs : List Value) : Obj (W.alloc (.cells cs.toArray t)) W.heap.size t cs := World.alloc_heap_new W _
theorem Obj.alloc {W : World} {b : Nat} {t : TypeId} {cs : List Value} (h : Obj W b t cs) (o : Go.Obj) : Obj (W.alloc o) b t cs := (Below.heap_alloc W o b h.lt).trans h
theorem Obj.set {W : World} {b : Nat} {t : TypeId} {cs : List Value} (h : Obj W b t cs) (j : Nat) (v : Value) : Obj (W.setCell ⟨b, j, none⟩ v) b t (cs.set j v) := by
  obtain ⟨hlt, hk⟩ := Array.getElem?_eq_some_iff.1 h
  show (W.heap.modify b _)[b]? = _
  rw [Array.getElem?_eq_getElem (by rw [Array.size_modify]; exact hlt), Array.getElem_modify_self, hk]
  simp
theorem Obj.other {W : World} {b : Nat} {t : TypeId} {cs : List Value} (h : Obj W b t cs) {p : Addr} (hp : b ≠ p.block) (v : Value) : Obj (W.setCell p v) b t cs := (Below.heap_setCell W p v b hp).trans h
theorem Obj.kept {T : Sq.Blocks} {W W' : World} {b : Nat} {t : TypeId} {cs : List Value} (h : Obj W b t cs) (hk : Sq.Kept T W W') (hT : T b) : Obj W' b t cs := (hk.block b hT h.lt).trans h
theorem Obj.below {W W' : World} {b : Nat} {t : TypeId} {cs : List Value} (h : Obj W b t cs) (hk : Below W.heap.size W W') : Obj W' b t cs := (hk.block b h.lt).trans h
theorem Obj.grown {W W' : World} {row : Option Nat} {b : Nat} {t : TypeId} {cs : List Value} (h : Obj W b t cs) (hg : W.grownBy W' row) (hr : row ≠ some b) : Obj W' b t cs := (hg.block b h.lt (Ne.symm hr)).trans h
theorem Obj.drew {W : World} {b : Nat} {t : TypeId} {cs : List Value} (h : Obj W b t cs) : Obj W.drew b t cs := h
/-- an object is no row of another type -/
theorem Obj.not_row {W : World} {b : Nat} {t e : TypeId} {cs : List Value} (h : Obj W b t cs) (hte : t ≠ e) {base size m : Nat} {v : Value} {xs : List Value} (hr : W.ownsRow base e size v m xs) : v.ownBlock ≠ some b := by
  rcases hr.2 with ⟨rfl, _⟩ | ⟨g, cap, cur, rfl, _, hgb, _⟩
  · simp [Value.ownBlock]
  · intro e'
    obtain rfl : g = b := by simpa [Value.ownBlock] using e'
    have := (show W.heap[g]? = _ from h).symm.trans hgb
    simp at this
    exact hte this.2
/-- two rows of different types are not one -/
theorem rows_apart {W : World} {b1 b2 : Nat} {t e : TypeId} {n1 n2 m1 m2 : Nat} {u v : Value} {xs ys : List Value} (h1 : W.ownsRow b1 t n1 u m1 xs) (h2 : W.ownsRow b2 e n2 v m2 ys) (hte : t ≠ e) : ∀ g, u.ownBlock = some g → v.ownBlock ≠ some g := by
  intro g hu hv
  rcases h1.2 with ⟨rfl, _⟩ | ⟨g1, cap1, cur1, rfl, _, hg1, _⟩
  · simp [Value.ownBlock] at hu
  · rcases h2.2 with ⟨rfl, _⟩ | ⟨g2, cap2, cur2, rfl, _, hg2, _⟩
    · simp [Value.ownBlock] at hv
    · obtain rfl : g1 = g := by simpa [Value.ownBlock] using hu
      obtain rfl : g2 = g1 := by simpa [Value.ownBlock] using hv
      rw [hg1] at hg2
      simp at hg2
      exact hte hg2.2
/-- a row lies on while another block is written -/
theorem row_other {W : World} {base size m : Nat} {e : TypeId} {v : Value} {xs : List Value} (h : W.ownsRow base e size v m xs) {p : Addr} (hp : v.ownBlock ≠ some p.block) (u : Value) : (W.setCell p u).ownsRow base e size v m xs := by
  rcases h with ⟨h0, h1 | ⟨g, cap, cur, h1, h2, h3, h4⟩⟩
  · exact ⟨h0, .inl h1⟩
  · exact ⟨h0, .inr ⟨g, cap, cur, h1, h2, (Below.heap_setCell W p u g (fun e => hp (by rw [h1, ← e]; rfl))).trans h3, h4⟩⟩
theorem row_lt {W : World} {base size m : Nat} {e : TypeId} {v : Value} {xs : List Value} (h : W.ownsRow base e size v m xs) {g : Nat} (hg : v.ownBlock = some g) : base ≤ g ∧ g < W.heap.size := by
  rcases h.2 with ⟨h1, _⟩ | ⟨g', cap', cur, h1, h2, h3, _⟩
  · rw [h1] at hg; simp [Value.ownBlock] at hg
  · rw [h1] at hg
    obtain rfl : g' = g := by simpa [Value.ownBlock] using hg
    exact ⟨h2, (Array.getElem?_eq_some_iff.1 h3).1⟩
end Ob
end Go.Proofs.Ytpldfdlnhgmnaaa

namespace Go.Proofs.Ytpldfdlnhgmnaaa
open Go.RowKit
set_option linter.unusedSimpArgs false
set_option linter.unusedVariables false


theorem putUr_at (N : Int) (n : Nat) (w : World) (h : N = n) (h1 : n < 18446744073709551616) :
    Calls Try.prog 71 #[.int .u64 N] w fun e w' => e = .returned (.string (Cd.bs (Cd.putU n))) ∧ Below w.heap.size w w' := by
  have := putUr_any N w (by omega) (by omega)
  rwa [show N.toNat = n from by omega] at this

theorem putUc_at (N : Int) (n : Nat) (w : World) (h : N = n) (h1 : n < 18446744073709551616) :
    Calls Try.prog 69 #[.int .u64 N] w fun e w' => e = .returned (.string (Cd.bs (Cd.putU n))) ∧ Below w.heap.size w w' := by
  have := putUc_any N w (by omega) (by omega)
  rwa [show N.toNat = n from by omega] at this

set_option maxRecDepth 100000 in
set_option maxHeartbeats 1000000 in
theorem putTr_any (s : ByteArray) (w : World) (hs : s.size ≤ 140737488351232) :
    Calls Try.prog 42 #[.string s] w fun e w' => e = .returned (.string (Cd.bs (Cd.putT s.data.toList))) ∧ Below w.heap.size w w' := by
  have hb := fun W => putUr_any (s.size : Int) W (by omega) (by omega)
  rw [Int.toNat_natCast] at hb
  have HB := Lib.hid hb
  clear hb
  have hl := Cd.putU_len10 s.size (by omega)
  have hw : IntKind.u64.wrap (s.size : Int) = s.size := Cd.wrapU_nat (by omega)
  have HE := Lib.hid (show Cd.bs (Cd.putU s.size) ++ s = Cd.bs (Cd.putT s.data.toList) by
    have := Lib.mk_data s
    rw [Cd.putT, ← Lib.size_eq]
    conv => lhs; rw [← this]
    exact ByteArray.mk_append_mk _ _)
  go_enter Try.func42, Try.ntmps42
  go_wp2_with (go_at_call 71; refine (HB.out _).mono ?_; rintro e w1 ⟨rfl, hb1⟩)
  go_ret
  exact ⟨by rw [← HE.out]; rfl, hb1⟩

end Go.Proofs.Ytpldfdlnhgmnaaa
/-
  The document's answers on roots (tapestryref04): Name, Takes, May.
-/
namespace Go.Proofs.Ytpldfdlnhgmnaaa
open Go.RowKit
set_option linter.unusedSimpArgs false
set_option linter.unusedVariables false

namespace Fi
open Op (bytesLess)
def inI64 (n : Int) : Prop := -9223372036854775808 ≤ n ∧ n ≤ 9223372036854775807
/-- a slice of numbers, in blocks below B -/
def Ints (B : Nat) (W : World) (v : Value) (l : List Int) : Prop :=
  ∃ (a : Option Addr) (cap b off : Nat), v = .slice a l.length cap ∧ (0 < l.length → a = some ⟨b, off, none⟩ ∧ b < B) ∧ ∀ j (h : j < l.length), W.cell? ⟨b, off + j, none⟩ = some (.int .i64 l[j])
theorem Ints.below {B : Nat} {W W' : World} {v : Value} {l : List Int} (h : Ints B W v l) (hb : Below B W W') : Ints B W' v l := by
  obtain ⟨a, cap, b, off, h1, h2, h3⟩ := h
  exact ⟨a, cap, b, off, h1, h2, fun j hj => (hb.cell (p := ⟨b, off + j, none⟩) (h2 (by omega)).2).trans (h3 j hj)⟩
/-- a slice of files, with the values of their lists of blocks -/
def Files (B : Nat) (W : World) (v : Value) (L : List (File × Value)) : Prop :=
  ∃ (a : Option Addr) (cap b off : Nat), v = .slice a L.length cap ∧ (0 < L.length → a = some ⟨b, off, none⟩ ∧ b < B) ∧ ∀ j (h : j < L.length),
    W.cell? ⟨b, off + j * 3, none⟩ = some (.string (Cd.bs L[j].1.name)) ∧ W.cell? ⟨b, off + j * 3 + 1, none⟩ = some (.int .i64 L[j].1.size) ∧ W.cell? ⟨b, off + j * 3 + 2, none⟩ = some L[j].2 ∧ Ints B W L[j].2 L[j].1.blocks
theorem Files.below {B : Nat} {W W' : World} {v : Value} {L : List (File × Value)} (h : Files B W v L) (hb : Below B W W') : Files B W' v L := by
  obtain ⟨a, cap, b, off, h1, h2, h3⟩ := h
  refine ⟨a, cap, b, off, h1, h2, fun j hj => ?_⟩
  have hl := (h2 (by omega)).2
  obtain ⟨g1, g2, g3, g4⟩ := h3 j hj
  exact ⟨(hb.cell (p := ⟨b, off + j * 3, none⟩) hl).trans g1, (hb.cell (p := ⟨b, off + j * 3 + 1, none⟩) hl).trans g2, (hb.cell (p := ⟨b, off + j * 3 + 2, none⟩) hl).trans g3, g4.below hb⟩
/-- bounds of what came in -/
structure FileIn (f : File) : Prop where
  name : f.name.length ≤ 1048576
  size : inI64 f.size
  many : f.blocks.length ≤ 1048576
  blocks : ∀ b ∈ f.blocks, inI64 b

theorem bl_total : ∀ p n : Dat, bytesLess p n = !(bytesLess n p || n == p)
  | [], [] => by simp [bytesLess]
  | [], b :: y => by simp [bytesLess]
  | a :: x, [] => by simp [bytesLess]
  | a :: x, b :: y => by
    have ih := bl_total x y
    have e1 : (a < b) ↔ a.toNat < b.toNat := UInt8.lt_iff_toNat_lt
    have e2 : (b < a) ↔ b.toNat < a.toNat := UInt8.lt_iff_toNat_lt
    have e3 : (a = b) ↔ a.toNat = b.toNat := UInt8.toNat_inj.symm
    have e4 : (b = a) ↔ b.toNat = a.toNat := UInt8.toNat_inj.symm
    rw [Cd.bl_cons, Cd.bl_cons, ih]
    have e5 : ((b :: y : Dat) == a :: x) = (decide (a.toNat = b.toNat) && (y == x)) := by
      rw [Bool.eq_iff_iff]; simp [e4]; intro _; omega
    rw [e5]
    by_cases h1 : a.toNat < b.toNat
    · have h2 : ¬ b.toNat < a.toNat := by omega
      have h3 : ¬ a.toNat = b.toNat := by omega
      have h4 : ¬ b.toNat = a.toNat := by omega
      simp [h1, h2, h3, h4]
    · by_cases h3 : a.toNat = b.toNat
      · simp [h3]
      · have h2 : b.toNat < a.toNat := by omega
        simp [h1, h2, h3]

/-- which blocks are taken, as a row -/
def marks (N : Nat) (t : List Int) : List Value := (List.range N).map fun (i : Nat) => Value.bool (decide ((i : Int) ∈ t))
theorem marks_none (N : Nat) : marks N [] = List.replicate N (.bool false) := by
  unfold marks; apply List.ext_getElem <;> simp
theorem marks_get (N : Nat) (t : List Int) (i : Nat) (h : i < N) : (marks N t)[i]? = some (.bool (decide ((i : Int) ∈ t))) := by simp [marks, h]
theorem marks_set (N : Nat) (t : List Int) (i : Nat) : (marks N t).set i (.bool true) = marks N ((i : Int) :: t) := by
  apply List.ext_getElem?
  intro j
  by_cases hj : j < N
  · rw [List.getElem?_set, marks_get N t j hj, marks_get N _ j hj]
    by_cases hij : i = j
    · subst hij; simp [marks, hj]
    · rw [if_neg hij]
      have : ¬ (j : Int) = (i : Int) := by omega
      simp [this]
  · rw [List.getElem?_eq_none (by simp [marks]; omega), List.getElem?_eq_none (by simp [marks]; omega)]
def prevOf (L : List File) : Nat → Option Dat
  | 0 => none
  | k + 1 => (L[k]?).map (·.name)
theorem takes_in {n : Int} (h0 : 0 ≤ n) : takes n = n / 256 + if 0 < n % 256 then 1 else 0 := rfl
end Fi

theorem belowN {B : Nat} {a w : World} (h : Below B a w) (n : Nat) : Below B a (w.drewN n) := ⟨h.os, h.tape, h.output, h.size, h.block⟩

end Go.Proofs.Ytpldfdlnhgmnaaa

/-
  P6.1, P6.2: the order of versions, towers' heights: plain, the document's answers (tapestryref06), the law MemtableOrder over what the program owes.
-/
namespace Go.Proofs.Ytpldfdlnhgmnaaa
open Go.RowKit
set_option linter.unusedSimpArgs false
set_option linter.unusedVariables false
namespace Mt
open Op (bytesLess)
/-- a version: its key, its sequence number, whether it takes away, its value -/
structure Ver where
  key : List UInt8
  seq : Int
  del : Bool
  val : List UInt8
def lessB (a b : Ver) : Bool := if a.key = b.key then decide (b.seq < a.seq) else bytesLess a.key b.key
def placeB (a b : Ver) : Bool := decide (a.key = b.key ∧ a.seq = b.seq)
theorem less_total (a b : Ver) : (lessB a b && lessB b a) = false ∧ (lessB a b || lessB b a) = !placeB a b := by
  unfold lessB placeB
  by_cases h : a.key = b.key
  · rw [if_pos h, if_pos h.symm]
    by_cases h1 : a.seq < b.seq
    · have h2 : ¬ b.seq < a.seq := by omega
      have h3 : ¬ a.seq = b.seq := by omega
      simp [h, h1, h2, h3]
    · by_cases h2 : b.seq < a.seq
      · have h3 : ¬ a.seq = b.seq := by omega
        simp [h, h1, h2, h3]
      · have h3 : a.seq = b.seq := by omega
        simp [h, h3]
  · rw [if_neg h, if_neg (fun e => h e.symm)]
    have ht := Fi.bl_total a.key b.key
    have hne : (b.key == a.key) = false := by simpa using fun e => h e.symm
    rw [hne, Bool.or_false] at ht
    rw [ht]
    have : decide (a.key = b.key ∧ a.seq = b.seq) = false := by simp [h]
    rw [this]
    cases bytesLess b.key a.key <;> simp
/-- P6.2 -/
def hgtGo : Nat → Nat → Int → Nat
  | 0, n, _ => n
  | f + 1, n, x => if n < 8 ∧ x % 4 = 0 then hgtGo f (n + 1) (x / 4) else n
def seedOf (seed seq : Int) : Int := mixOf (bits BinOp.xor IntKind.u64 seed (mixOf seq))
def height (seed seq : Int) : Nat := hgtGo 7 1 (seedOf seed seq)
def VerIn (a : Ver) : Prop := a.key.length ≤ 1048576 ∧ a.val.length ≤ 1048576 ∧ 0 ≤ a.seq ∧ a.seq < 18446744073709551616
/-- however long -/
def VerW (a : Ver) : Prop := a.key.length ≤ 140737488351232 ∧ a.val.length ≤ 140737488351232 ∧ 0 ≤ a.seq ∧ a.seq < 18446744073709551616
theorem VerIn.wide {a : Ver} (h : VerIn a) : VerW a := ⟨Nat.le_trans h.1 (by omega), Nat.le_trans h.2.1 (by omega), h.2.2.1, h.2.2.2⟩
def verV (a : Ver) : Value := .agg #[.string (Cd.bs a.key), .int .u64 a.seq, .bool a.del, .string (Cd.bs a.val)]

theorem xor_in {a b : Int} (ha : 0 ≤ a ∧ a < 18446744073709551616) (hb : 0 ≤ b ∧ b < 18446744073709551616) : 0 ≤ bits BinOp.xor IntKind.u64 a b ∧ bits BinOp.xor IntKind.u64 a b < 18446744073709551616 := by
  obtain ⟨m, rfl⟩ := Int.eq_ofNat_of_zero_le ha.1
  obtain ⟨n, rfl⟩ := Int.eq_ofNat_of_zero_le hb.1
  rw [u64_xor_nat m n (by omega) (by omega)]
  have := Nat.xor_lt_two_pow (x := m) (y := n) (n := 64) (by omega) (by omega)
  omega
theorem mix_in (N : Int) : 0 ≤ mixOf N ∧ mixOf N < 18446744073709551616 := by
  unfold mixOf
  simp only
  have key : ∀ x : Int, 0 ≤ IntKind.u64.wrap x ∧ IntKind.u64.wrap x < 18446744073709551616 := fun x => by rw [IntKind.wrap_u64]; omega
  have h := key (bits BinOp.xor IntKind.u64 (IntKind.u64.wrap (bits BinOp.xor IntKind.u64 (IntKind.u64.wrap (N + 11400714819323198485)) (IntKind.u64.wrap (N + 11400714819323198485) / 1073741824) * 13787848793156543929)) (IntKind.u64.wrap (bits BinOp.xor IntKind.u64 (IntKind.u64.wrap (N + 11400714819323198485)) (IntKind.u64.wrap (N + 11400714819323198485) / 1073741824) * 13787848793156543929) / 134217728) * 10723151780598845931)
  exact xor_in h (by omega)

end Mt
end Go.Proofs.Ytpldfdlnhgmnaaa
/-
  Plain data that a call has made itself, in rows of its own at B or above: kept, read, and put together by append. (What came in: XGen.)
-/
namespace Go.Proofs.Ytpldfdlnhgmnaaa
open Go.RowKit
set_option linter.unusedVariables false
namespace Gn

/-- a row of elements, each of so many cells -/
def OwL (W : World) (B : Nat) (te : TypeId) (sz : Nat) {α : Type} (ow : List Value → α → Prop) (v : Value) (l : List α) : Prop :=
  ∃ rows : List (List Value), rows.length = l.length ∧ W.ownsRow B te sz v l.length rows.flatten ∧ ∀ j (h : j < l.length) (h' : j < rows.length), rows[j].length = sz ∧ ow rows[j] l[j]
mutual
def OwC (P : Program) (B : Nat) (W : World) : (t : Ty) → TypeId → List Value → t.Den → Prop
  | .int k, _, cs, (a : Int) => cs = [.int k a] ∧ (Lit.int k a).wf = true
  | .bool, _, cs, (x : Bool) => cs = [.bool x]
  | .str, _, cs, (l : List UInt8) => cs = [.string ⟨l.toArray⟩] ∧ l.length ≤ maxLen
  | .slice e, ti, cs, (l : List e.Den) => ∃ te v, P.underlying ti = some (.slice te) ∧ cs = [v] ∧ OwL W B te e.size (OwC P B W e te) v l
  | .struct fs, ti, cs, d => ∃ Fs, P.underlying ti = some (.struct Fs) ∧ OwCs P B W fs Fs.toList cs d
def OwCs (P : Program) (B : Nat) (W : World) : (fs : Tys) → List Field → List Value → fs.Den → Prop
  | .nil, _, cs, _ => cs = []
  | .cons t r, l, cs, d => ∃ f l' c1 c2, l = f :: l' ∧ cs = c1 ++ c2 ∧ c1.length = t.size ∧ OwC P B W t f.type c1 d.1 ∧ OwCs P B W r l' c2 d.2
end
mutual
/-- the element types of the rows within -/
def Ty.rowsOf (P : Program) : Ty → TypeId → List TypeId
  | .slice e, ti => (match P.underlying ti with | some (.slice te) => te :: e.rowsOf P te | _ => [])
  | .struct fs, ti => (match P.underlying ti with | some (.struct Fs) => fs.rowsOf P Fs.toList | _ => [])
  | .int _, _ => []
  | .bool, _ => []
  | .str, _ => []
def Tys.rowsOf (P : Program) : Tys → List Field → List TypeId
  | .nil, _ => []
  | .cons t r, l => (match l with | f :: l' => t.rowsOf P f.type ++ r.rowsOf P l' | [] => [])
end

/-- of the rows of these types at B or above none has turned -/
def Spared (B : Nat) (X : List TypeId) (W W' : World) : Prop := ∀ k c te fz, B ≤ k → te ∈ X → W.heap[k]? = some (.cells c te fz) → W'.heap[k]? = W.heap[k]?
theorem Spared.less {B : Nat} {X Y : List TypeId} {W W' : World} (h : Spared B X W W') (hs : ∀ t ∈ Y, t ∈ X) : Spared B Y W W' := fun k c te fz hk ht => h k c te fz hk (hs te ht)
theorem Spared.of_kept {B : Nat} {X : List TypeId} {W W' : World} {T : Sq.Blocks} (h : Sq.Kept T W W') (hT : ∀ k, B ≤ k → k < W.heap.size → T k) : Spared B X W W' :=
  fun k c te fz hk _ hh => h.block k (hT k hk (Array.getElem?_eq_some_iff.1 hh).1) (Array.getElem?_eq_some_iff.1 hh).1
theorem Spared.below {B : Nat} {X : List TypeId} {W W' : World} (h : Below W.heap.size W W') : Spared B X W W' :=
  fun k c te fz hk _ hh => h.block k (Array.getElem?_eq_some_iff.1 hh).1
theorem Spared.alloc {B : Nat} {X : List TypeId} (W : World) (o : Go.Obj) : Spared B X W (W.alloc o) := Spared.below ((Below.refl _ _).alloc (Nat.le_refl _) _)
/-- an append to a row of another type -/
theorem Spared.grown {B B' : Nat} {X : List TypeId} {W W' : World} {te : TypeId} {sz m : Nat} {v : Value} {xs : List Value} (hr : W.ownsRow B' te sz v m xs) (hg : W.grownBy W' v.ownBlock) (hX : te ∉ X) : Spared B X W W' := by
  intro k c t' fz hk ht hh
  refine hg.block k (Array.getElem?_eq_some_iff.1 hh).1 (fun e => ?_)
  rcases hr.2 with ⟨rfl, _⟩ | ⟨g, cap, cur, rfl, _, hgb, _⟩
  · simp [Value.ownBlock] at e
  · obtain rfl : k = g := by simpa [Value.ownBlock] using e
    rw [hgb] at hh
    injection hh with hh
    injection hh with _ h2 _
    exact hX (h2 ▸ ht)
/-- a store into an object of another type -/
theorem Spared.set {B : Nat} {X : List TypeId} {W : World} {b : Nat} {t : TypeId} {cs : List Value} (ho : Ob.Obj W b t cs) (j : Nat) (u : Value) (hX : t ∉ X) : Spared B X W (W.setCell ⟨b, j, none⟩ u) := by
  intro k c t' fz hk ht hh
  refine Below.heap_setCell _ _ _ _ (fun e => ?_)
  simp only at e
  subst e
  have := (show W.heap[k]? = _ from ho).symm.trans hh
  injection this with h1
  injection h1 with _ h2 _
  exact hX (h2 ▸ ht)
theorem row_spared {B : Nat} {X : List TypeId} {W W' : World} {te : TypeId} {sz m : Nat} {v : Value} {xs : List Value} (h : W.ownsRow B te sz v m xs) (hs : Spared B X W W') (ht : te ∈ X) : W'.ownsRow B te sz v m xs := by
  rcases h with ⟨h0, h1 | ⟨g, cap, cur, h1, h2, h3, h4⟩⟩
  · exact ⟨h0, .inl h1⟩
  · exact ⟨h0, .inr ⟨g, cap, cur, h1, h2, (hs g _ te _ h2 ht h3).trans h3, h4⟩⟩
theorem row_lower {W : World} {B B' : Nat} {e : TypeId} {sz m : Nat} {v : Value} {xs : List Value} (h : W.ownsRow B e sz v m xs) (hB : B' ≤ B) : W.ownsRow B' e sz v m xs := by
  rcases h with ⟨h0, h1 | ⟨g, cap, cur, h1, h2, h3, h4⟩⟩
  · exact ⟨h0, .inl h1⟩
  · exact ⟨h0, .inr ⟨g, cap, cur, h1, Nat.le_trans hB h2, h3, h4⟩⟩
mutual
theorem OwC.spared {P : Program} {B : Nat} {W W' : World} : ∀ (t : Ty) {ti : TypeId} {cs : List Value} {d : t.Den}, OwC P B W t ti cs d → Spared B (t.rowsOf P ti) W W' → OwC P B W' t ti cs d
  | .int k, _, cs, d, h, _ => h
  | .bool, _, cs, d, h, _ => h
  | .str, _, cs, d, h, _ => h
  | .slice e, ti, cs, d, h, hs => by
    obtain ⟨te, v, hu, h1, rows, h2, h3, h4⟩ := h
    have hro : (Ty.slice e).rowsOf P ti = te :: e.rowsOf P te := by simp only [Ty.rowsOf, hu]
    rw [hro] at hs
    exact ⟨te, v, hu, h1, rows, h2, row_spared h3 hs (List.mem_cons_self ..), fun j hj hj' => ⟨(h4 j hj hj').1, OwC.spared e (h4 j hj hj').2 (hs.less (fun t ht => List.mem_cons_of_mem _ ht))⟩⟩
  | .struct fs, ti, cs, d, h, hs => by
    obtain ⟨Fs, hu, h⟩ := h
    have hro : (Ty.struct fs).rowsOf P ti = fs.rowsOf P Fs.toList := by simp only [Ty.rowsOf, hu]
    rw [hro] at hs
    exact ⟨Fs, hu, OwCs.spared fs h hs⟩
theorem OwCs.spared {P : Program} {B : Nat} {W W' : World} : ∀ (fs : Tys) {l : List Field} {cs : List Value} {d : fs.Den}, OwCs P B W fs l cs d → Spared B (fs.rowsOf P l) W W' → OwCs P B W' fs l cs d
  | .nil, l, cs, d, h, _ => h
  | .cons t r, l, cs, d, h, hs => by
    obtain ⟨f, l', c1, c2, rfl, h2, h3, h4, h5⟩ := h
    have hro : (Tys.cons t r).rowsOf P (f :: l') = t.rowsOf P f.type ++ r.rowsOf P l' := rfl
    rw [hro] at hs
    exact ⟨f, l', c1, c2, rfl, h2, h3, OwC.spared t h4 (hs.less (fun t ht => List.mem_append_left _ ht)), OwCs.spared r h5 (hs.less (fun t ht => List.mem_append_right _ ht))⟩
end
mutual
theorem OwC.lower {P : Program} {B B' : Nat} {W : World} (hB : B' ≤ B) : ∀ (t : Ty) {ti : TypeId} {cs : List Value} {d : t.Den}, OwC P B W t ti cs d → OwC P B' W t ti cs d
  | .int k, _, cs, d, h => h
  | .bool, _, cs, d, h => h
  | .str, _, cs, d, h => h
  | .slice e, ti, cs, d, h => by
    obtain ⟨te, v, hu, h1, rows, h2, h3, h4⟩ := h
    exact ⟨te, v, hu, h1, rows, h2, row_lower h3 hB, fun j hj hj' => ⟨(h4 j hj hj').1, OwC.lower hB e (h4 j hj hj').2⟩⟩
  | .struct fs, ti, cs, d, h => by
    obtain ⟨Fs, hu, h⟩ := h
    exact ⟨Fs, hu, OwCs.lower hB fs h⟩
theorem OwCs.lower {P : Program} {B B' : Nat} {W : World} (hB : B' ≤ B) : ∀ (fs : Tys) {l : List Field} {cs : List Value} {d : fs.Den}, OwCs P B W fs l cs d → OwCs P B' W fs l cs d
  | .nil, l, cs, d, h => h
  | .cons t r, l, cs, d, h => by
    obtain ⟨f, l', c1, c2, rfl, h2, h3, h4, h5⟩ := h
    exact ⟨f, l', c1, c2, rfl, h2, h3, OwC.lower hB t h4, OwCs.lower hB r h5⟩
end
theorem flatten_get {sz : Nat} : ∀ (rows : List (List Value)), (∀ j (h : j < rows.length), rows[j].length = sz) → ∀ j (h : j < rows.length) k, k < sz → rows.flatten[j * sz + k]? = rows[j][k]?
  | [], _, j, h, _, _ => by simp at h
  | r :: rs, hl, 0, _, k, hk => by
    have h0 := hl 0 (by simp)
    simp only [List.getElem_cons_zero] at h0
    rw [List.flatten_cons, Nat.zero_mul, Nat.zero_add, List.getElem?_append_left (by omega)]
    rfl
  | r :: rs, hl, j + 1, h, k, hk => by
    have h0 := hl 0 (by simp)
    simp only [List.getElem_cons_zero] at h0
    have := flatten_get rs (fun i hi => by have := hl (i + 1) (by simpa using hi); simpa using this) j (by simpa using h) k hk
    rw [List.flatten_cons, List.getElem?_append_right (by rw [h0, Nat.succ_mul]; omega), h0, show (j + 1) * sz + k - sz = j * sz + k by rw [Nat.succ_mul]; omega]
    exact this
theorem flatten_len {sz : Nat} : ∀ (rows : List (List Value)), (∀ j (h : j < rows.length), rows[j].length = sz) → rows.flatten.length = rows.length * sz
  | [], _ => by simp
  | r :: rs, hl => by
    have h0 := hl 0 (by simp)
    simp only [List.getElem_cons_zero] at h0
    rw [List.flatten_cons, List.length_append, h0, flatten_len rs (fun i hi => by have := hl (i + 1) (by simpa using hi); simpa using this), List.length_cons, Nat.succ_mul]
    omega
theorem row_at {W : World} {B : Nat} {te : TypeId} {sz m : Nat} {v : Value} {xs : List Value} (h : W.ownsRow B te sz v m xs) :
    ∃ (a : Option Addr) (cap b : Nat), v = .slice a m cap ∧ m ≤ cap ∧ cap ≤ maxLen ∧ (0 < m → a = some ⟨b, 0, none⟩ ∧ B ≤ b ∧ b < W.heap.size ∧ ∀ j, j < m * sz → W.cell? ⟨b, j, none⟩ = xs[j]?) := by
  have hc := h
  rcases h.2 with ⟨rfl, rfl⟩ | ⟨g, cap, cur, rfl, h2, h3, h4, h5, h6⟩
  · exact ⟨none, 0, 0, rfl, Nat.le_refl _, Nat.zero_le _, fun h => by omega⟩
  · refine ⟨_, cap, g, rfl, h4, h5, fun _ => ⟨rfl, h2, (Array.getElem?_eq_some_iff.1 h3).1, fun j hj => ?_⟩⟩
    exact hc.cellAt j hj
mutual
theorem OwC.rd {P : Program} {B : Nat} {W : World} : ∀ (t : Ty) {ti : TypeId} {cs : List Value} {d : t.Den}, OwC P B W t ti cs d → RdC W.heap.size W t cs d
  | .int k, _, cs, d, h => h
  | .bool, _, cs, d, h => h
  | .str, _, cs, d, h => h
  | .slice e, ti, cs, d, h => by
    obtain ⟨te, v, hu, rfl, rows, h2, h3, h4⟩ := h
    obtain ⟨a, cap, b, rfl, g1, g2, g3⟩ := row_at h3
    refine ⟨a, cap, b, 0, rfl, g1, g2, fun h => ⟨(g3 h).1, (g3 h).2.2.1⟩, fun j hj => ?_⟩
    have hj' : j < rows.length := by omega
    obtain ⟨k1, k2⟩ := h4 j hj hj'
    refine ⟨rows[j], k1, fun k hk => ?_, OwC.rd e k2⟩
    have hlt : j * e.size + k < d.length * e.size := by
      have : (j + 1) * e.size ≤ d.length * e.size := Nat.mul_le_mul_right _ (by omega)
      rw [Nat.succ_mul] at this; omega
    rw [Nat.zero_add, (g3 (by omega)).2.2.2 _ hlt, flatten_get rows (fun i hi => (h4 i (by omega) hi).1) j hj' k hk]
  | .struct fs, ti, cs, d, h => by
    obtain ⟨Fs, hu, h⟩ := h
    exact OwCs.rd fs h
theorem OwCs.rd {P : Program} {B : Nat} {W : World} : ∀ (fs : Tys) {l : List Field} {cs : List Value} {d : fs.Den}, OwCs P B W fs l cs d → RdCs W.heap.size W fs cs d
  | .nil, l, cs, d, h => h
  | .cons t r, l, cs, d, h => by
    obtain ⟨f, l', c1, c2, rfl, h2, h3, h4, h5⟩ := h
    exact ⟨c1, c2, h2, h3, OwC.rd t h4, OwCs.rd r h5⟩
end
theorem OwL.nil {W : World} {B : Nat} {te : TypeId} {sz : Nat} {α : Type} {ow : List Value → α → Prop} : OwL W B te sz ow (.slice none 0 0) ([] : List α) :=
  ⟨[], rfl, World.ownsRow_nil _ _ _ _, fun j h => by simp at h⟩
/-- behind the append of one element: its row may lie elsewhere now -/
theorem OwL.snoc {P : Program} {W W2 : World} {B : Nat} {te : TypeId} {e : Ty} {v v2 : Value} {l : List e.Den} {rows : List (List Value)} {cs : List Value} {x : e.Den}
    (hr : rows.length = l.length) (hel : ∀ j (h : j < l.length) (h' : j < rows.length), rows[j].length = e.size ∧ OwC P B W e te rows[j] l[j]) (hx : OwC P B W e te cs x) (hcs : cs.length = e.size)
    (hown : W2.ownsRow B te e.size v2 (l.length + 1) (rows.flatten ++ cs)) (hs : Spared B (e.rowsOf P te) W W2) : OwL W2 B te e.size (OwC P B W2 e te) v2 (l ++ [x]) := by
  refine ⟨rows ++ [cs], by simp [hr], ?_, fun j h h' => ?_⟩
  · rw [List.length_append, List.length_singleton, List.flatten_append]
    simpa using hown
  · by_cases hj : j < l.length
    · rw [List.getElem_append_left hj, List.getElem_append_left (by omega)]
      exact ⟨(hel j hj (by omega)).1, OwC.spared e (hel j hj (by omega)).2 hs⟩
    · obtain rfl : j = l.length := by simp at h; omega
      rw [List.getElem_append_right (Nat.le_refl _), List.getElem_append_right (by omega)]
      simp only [Nat.sub_self, List.getElem_cons_zero, hr]
      exact ⟨hcs, OwC.spared e hx hs⟩
end Gn
end Go.Proofs.Ytpldfdlnhgmnaaa

/-
  Tables (api.Table, six cells each) and edits: where they lie, what keeps them; rows that a call has made.
-/
namespace Go.Proofs.Ytpldfdlnhgmnaaa
open Go.RowKit
set_option linter.unusedVariables false
theorem info_Table : (Try.prog.info? 38).map (fun i => (i.zero, i.size, i.bytes)) = some (some (.agg #[.int .u64 0, .int .i64 0, .int .i64 0, .int .i64 0, .string ⟨#[]⟩, .string ⟨#[]⟩]), 6, 64) := by kernel_rfl
namespace Mf
open Gn
open Op (bytesLess)
structure Tbl where
  num : Int
  lev : Int
  siz : Int
  cnt : Int
  lo : List UInt8
  hi : List UInt8
structure Ed where
  next : Int
  seq : Int
  log : Int
  add : List Tbl
  drop : List Int
/-- what a table's fields are, whatever it is -/
structure TblIn (x : Tbl) : Prop where
  n0 : 0 ≤ x.num
  n1 : x.num ≤ 18446744073709551615
  l0 : -9223372036854775808 ≤ x.lev
  l1 : x.lev ≤ 9223372036854775807
  s0 : -9223372036854775808 ≤ x.siz
  s1 : x.siz ≤ 9223372036854775807
  c0 : -9223372036854775808 ≤ x.cnt
  c1 : x.cnt ≤ 9223372036854775807
  lo : x.lo.length ≤ 1048576
  hi : x.hi.length ≤ 1048576
theorem bl_le : ∀ a b : List UInt8, (bytesLess a b || a == b) = !bytesLess b a
  | [], [] => rfl
  | [], _ :: _ => rfl
  | _ :: _, [] => rfl
  | a :: x, b :: y => by
    have ih := bl_le x y
    rw [Cd.bl_cons, Cd.bl_cons]
    rcases Nat.lt_trichotomy a.toNat b.toNat with h | h | h
    · have h2 : ¬ b.toNat < a.toNat := by omega
      have h3 : ¬ b.toNat = a.toNat := by omega
      simp [h, h2, h3]
    · have e : a = b := UInt8.toNat_inj.1 h
      subst e
      simpa using ih
    · have h2 : ¬ a.toNat < b.toNat := by omega
      have h3 : ¬ a.toNat = b.toNat := by omega
      have h4 : ¬ a = b := fun e => h3 (by rw [e])
      simp [h, h2, h3, h4]
/-- Words: may a table be? -/
def mayT (x : Tbl) : Bool :=
  decide (1 ≤ x.num) && decide (x.num ≤ 4611686018427387904) && decide (0 ≤ x.lev) && decide (x.lev < 4) && decide (1 ≤ x.siz) && decide (x.siz ≤ 1073741824) && decide (1 ≤ x.cnt) && decide (x.cnt ≤ 1073741824) &&
    decide (1 ≤ x.lo.length) && decide (x.lo.length ≤ 96) && decide (1 ≤ x.hi.length) && decide (x.hi.length ≤ 96) && !bytesLess x.hi x.lo
/-- may an edit be? -/
def mayE (e : Ed) : Bool :=
  decide (e.next ≤ 4611686018427387904) && decide (e.seq ≤ 4611686018427387904) && decide (e.log ≤ 4611686018427387904) && decide (e.add.length ≤ 1000) && decide (e.drop.length ≤ 1000) && e.add.all mayT && e.drop.all fun d => decide (1 ≤ d) && decide (d ≤ 4611686018427387904)
def tblV (x : Tbl) : Value := .agg #[.int .u64 x.num, .int .i64 x.lev, .int .i64 x.siz, .int .i64 x.cnt, .string (Cd.bs x.lo), .string (Cd.bs x.hi)]
/-- the six cells of a table -/
def TAt (W : World) (b o : Nat) (x : Tbl) : Prop :=
  W.cell? ⟨b, o, none⟩ = some (.int .u64 x.num) ∧ W.cell? ⟨b, o + 1, none⟩ = some (.int .i64 x.lev) ∧ W.cell? ⟨b, o + 2, none⟩ = some (.int .i64 x.siz) ∧ W.cell? ⟨b, o + 3, none⟩ = some (.int .i64 x.cnt) ∧ W.cell? ⟨b, o + 4, none⟩ = some (.string (Cd.bs x.lo)) ∧ W.cell? ⟨b, o + 5, none⟩ = some (.string (Cd.bs x.hi))
theorem TAt.below {B : Nat} {W W' : World} {b o : Nat} {x : Tbl} (h : TAt W b o x) (hb : Below B W W') (hl : b < B) : TAt W' b o x := by
  obtain ⟨h0, h1, h2, h3, h4, h5⟩ := h
  exact ⟨(hb.cell (p := ⟨b, o, none⟩) hl).trans h0, (hb.cell (p := ⟨b, o + 1, none⟩) hl).trans h1, (hb.cell (p := ⟨b, o + 2, none⟩) hl).trans h2, (hb.cell (p := ⟨b, o + 3, none⟩) hl).trans h3, (hb.cell (p := ⟨b, o + 4, none⟩) hl).trans h4, (hb.cell (p := ⟨b, o + 5, none⟩) hl).trans h5⟩
/-- tables in a row, in blocks below B -/
def Tbs (B : Nat) (W : World) (v : Value) (L : List Tbl) : Prop :=
  ∃ (a : Option Addr) (cap b off : Nat), v = .slice a L.length cap ∧ (0 < L.length → a = some ⟨b, off, none⟩ ∧ b < B) ∧ ∀ j (h : j < L.length), TAt W b (off + j * 6) L[j]
theorem Tbs.below {B : Nat} {W W' : World} {v : Value} {L : List Tbl} (h : Tbs B W v L) (hb : Below B W W') : Tbs B W' v L := by
  obtain ⟨a, cap, b, off, h1, h2, h3⟩ := h
  exact ⟨a, cap, b, off, h1, h2, fun j hj => (h3 j hj).below hb (h2 (by omega)).2⟩
theorem Tbs.grow {B B' : Nat} {W W' : World} {v : Value} {L : List Tbl} (h : Tbs B W v L) (hb : Below B W W') (hB : B ≤ B') : Tbs B' W' v L := by
  obtain ⟨a, cap, b, off, h1, h2, h3⟩ := h.below hb
  exact ⟨a, cap, b, off, h1, fun h => ⟨(h2 h).1, Nat.lt_of_lt_of_le (h2 h).2 hB⟩, h3⟩
/-- numbers (uint64) in a row, in blocks below B (as Mg.Us, for seats without chapter 9) -/
def Ns (B : Nat) (W : World) (v : Value) (l : List Int) : Prop :=
  ∃ (a : Option Addr) (cap b off : Nat), v = .slice a l.length cap ∧ (0 < l.length → a = some ⟨b, off, none⟩ ∧ b < B) ∧ ∀ j (h : j < l.length), W.cell? ⟨b, off + j, none⟩ = some (.int .u64 l[j])
theorem Ns.grow {B B' : Nat} {W W' : World} {v : Value} {L : List Int} (h : Ns B W v L) (hb : Below B W W') (hB : B ≤ B') : Ns B' W' v L := by
  obtain ⟨a, cap, b, off, h1, h2, h3⟩ := h
  exact ⟨a, cap, b, off, h1, fun h => ⟨(h2 h).1, Nat.lt_of_lt_of_le (h2 h).2 hB⟩, fun j hj => (hb.cell (p := ⟨b, off + j, none⟩) (h2 (by omega)).2).trans (h3 j hj)⟩
def tC (x : Tbl) : List Value := [.int .u64 x.num, .int .i64 x.lev, .int .i64 x.siz, .int .i64 x.cnt, .string (Cd.bs x.lo), .string (Cd.bs x.hi)]
def tcs (L : List Tbl) : List Value := (L.map tC).flatten
theorem tcs_snoc (L : List Tbl) (x : Tbl) : tcs (L ++ [x]) = tcs L ++ [.int .u64 x.num, .int .i64 x.lev, .int .i64 x.siz, .int .i64 x.cnt, .string (Cd.bs x.lo), .string (Cd.bs x.hi)] := by simp [tcs, tC]
/-- such a row is read as tables -/
theorem tbs_of_own {W : World} {B : Nat} {te : TypeId} {v : Value} {L : List Tbl} (h : W.ownsRow B te 6 v L.length (tcs L)) : Tbs W.heap.size W v L := by
  obtain ⟨a, cap, b, rfl, _, _, h3⟩ := Gn.row_at h
  refine ⟨a, cap, b, 0, rfl, fun h => ⟨(h3 h).1, (h3 h).2.2.1⟩, fun j hj => ?_⟩
  obtain ⟨_, _, _, hc⟩ := h3 (by omega)
  have hg : ∀ k, k < 6 → W.cell? ⟨b, j * 6 + k, none⟩ = (tC L[j])[k]? := fun k hk => by
    rw [hc (j * 6 + k) (by omega)]
    have := Gn.flatten_get (sz := 6) (L.map tC) (fun i hi => by simp [tC]) j (by simpa using hj) k hk
    unfold tcs
    rw [this]
    simp
  have e : 0 + j * 6 = j * 6 := by omega
  rw [e]
  exact ⟨hg 0 (by decide), hg 1 (by decide), hg 2 (by decide), hg 3 (by decide), hg 4 (by decide), hg 5 (by decide)⟩
theorem cell_six_new (w : World) (a b c d e f : Value) (t : TypeId) : ∀ j u, [a, b, c, d, e, f][j]? = some u → (w.alloc (.cells #[a, b, c, d, e, f] t)).cell? ((⟨w.heap.size, 0, none⟩ : Addr).add j) = some u := by
  intro j u hj
  match j, hj with
  | 0, hj => simp at hj; subst hj; simp [Addr.add]
  | 1, hj => simp at hj; subst hj; simp [Addr.add]
  | 2, hj => simp at hj; subst hj; simp [Addr.add]
  | 3, hj => simp at hj; subst hj; simp [Addr.add]
  | 4, hj => simp at hj; subst hj; simp [Addr.add]
  | 5, hj => simp at hj; subst hj; simp [Addr.add]
  | (j + 6), hj => simp at hj

set_option maxRecDepth 100000 in
set_option maxHeartbeats 4000000 in
theorem mayTableR_any (x : Tbl) (w : World) (hx : TblIn x) :
    Calls Try.prog 58 #[tblV x] w fun e w' => e = .returned (.bool (mayT x)) ∧ Below w.heap.size w w' := by
  obtain ⟨n, l, s, c, lo, hi⟩ := x
  obtain ⟨h1, h2, h3, h4, h5, h6, h7, h8, h9, h10⟩ := hx
  simp only at h1 h2 h3 h4 h5 h6 h7 h8 h9 h10
  unfold tblV mayT
  simp only
  have hsk : (Cd.bs lo).size = lo.length := rfl
  have hsv : (Cd.bs hi).size = hi.length := rfl
  have hkl : (Cd.bs lo).toList = lo := by rw [ByteArray.toList_mk]
  have hvl : (Cd.bs hi).toList = hi := by rw [ByteArray.toList_mk]
  go_enter Try.func58, Try.ntmps58
  go_wp2_with fail
  all_goals go_ret
  all_goals refine ⟨congrArg (fun b => Ending.returned (.bool b)) ?_, (Below.refl _ _).alloc (Nat.le_refl _) _⟩
  all_goals (try rw [bl_le])
  all_goals (first | (simp_all; done) | (symm; simp only [Bool.and_eq_false_iff, decide_eq_false_iff_not]; omega) | (simp_all; intros; omega) | skip)
end Mf
end Go.Proofs.Ytpldfdlnhgmnaaa

/-
  The document's small answers of chapter 10: Overlap, among, SameTables.
-/
namespace Go.Proofs.Ytpldfdlnhgmnaaa
open Go.RowKit
set_option linter.unusedSimpArgs false
set_option linter.unusedVariables false
namespace Mf
open Op (bytesLess)

set_option maxRecDepth 100000 in
set_option maxHeartbeats 4000000 in
theorem amongR_any (v : Value) (l : List Int) (n : Int) (w : World) (hV : Ns w.heap.size w v l) (hl : l.length ≤ 4611686018427387904) :
    Calls Try.prog 32 #[v, .int .u64 n] w fun e w' => e = .returned (.bool (decide (n ∈ l))) ∧ Below w.heap.size w w' := by
  obtain ⟨a, cap, fb, fo, rfl, ha, hcells⟩ := hV
  have HC := Lib.hid hcells
  clear hcells
  go_enter Try.func32, Try.ntmps32
  go_wp2_with fail
  go_loopw [5] (fun i wr => ∃ q : Nat, q ≤ l.length ∧ i = .int .i64 (q : Int) ∧ (l.take q).contains n = false ∧ Below w.heap.size w wr) (fun i _ => l.length - (intOf i).toNat)
  case atStart => exact ⟨0, Nat.zero_le _, rfl, rfl, Below.refl _ _⟩
  case round =>
    obtain ⟨q, hq, rfl, hno, hB⟩ := hrel
    by_cases hlt : q < l.length
    · obtain ⟨rfl, hfb⟩ := ha (by omega)
      have e0 := HC.out q hlt
      replace e0 := (hB.cell (p := ⟨fb, fo + q, none⟩) hfb).trans e0
      have hi1 : (0 : Int) ≤ (q : Int) ∧ (q : Int) < (l.length : Int) := by omega
      have hmem := List.getElem_mem hlt
      have hsn := List.take_succ_eq_append_getElem hlt
      obtain ⟨x, hx⟩ : ∃ x, l[q] = x := ⟨_, rfl⟩
      rw [hx] at e0 hmem hsn
      by_cases hxn : x = n
      · subst hxn
        have HCT := Lib.hid (show decide (x ∈ l) = true by simpa using hmem)
        clear hmem hsn hno
        go_wp2_with fail
        go_ret
        exact ⟨by rw [HCT.out]; rfl, hB⟩
      · have HN := Lib.hid (show (l.take (q + 1)).contains n = false by rw [hsn]; simp at hno ⊢; exact ⟨hno, fun e => hxn e.symm⟩)
        clear hmem hsn hno
        go_wp2_with fail
        go_roundw
        case rel => exact ⟨q + 1, by omega, by go_num, HN.out, hB⟩
        case measure => simp [intOf]; omega
    · obtain rfl : q = l.length := by omega
      rw [List.take_length] at hno
      have HN := Lib.hid (show decide (n ∈ l) = false by simpa using hno)
      clear hno
      go_wp2_with fail
      go_ret
      exact ⟨by rw [HN.out]; rfl, hB⟩

set_option maxRecDepth 100000 in
set_option maxHeartbeats 4000000 in
theorem overlapR_any (x : Tbl) (lo hi : List UInt8) (w : World) :
    Calls Try.prog 26 #[tblV x, .string (Cd.bs lo), .string (Cd.bs hi)] w fun e w' => e = .returned (.bool (!bytesLess x.hi lo && !bytesLess hi x.lo)) ∧ Below w.heap.size w w' := by
  obtain ⟨n, l, s, c, xlo, xhi⟩ := x
  unfold tblV
  simp only
  have hsk : (Cd.bs lo).toList = lo := by rw [ByteArray.toList_mk]
  have hsv : (Cd.bs hi).toList = hi := by rw [ByteArray.toList_mk]
  have hkl : (Cd.bs xlo).toList = xlo := by rw [ByteArray.toList_mk]
  have hvl : (Cd.bs xhi).toList = xhi := by rw [ByteArray.toList_mk]
  go_enter Try.func26, Try.ntmps26
  go_wp2_with fail
  all_goals go_ret
  all_goals refine ⟨congrArg (fun b => Ending.returned (.bool b)) ?_, (Below.refl _ _).alloc (Nat.le_refl _) _⟩
  all_goals (try simp_all [bl_le, ← bl_le])

set_option maxRecDepth 100000 in
set_option maxHeartbeats 4000000 in
theorem sameTables_eq (u v : Value) (L : List Tbl) (w : World) (hU : Tbs w.heap.size w u L) (hV : Tbs w.heap.size w v L) (hL : L.length ≤ 4611686018427387904) :
    Calls Try.prog 34 #[u, v] w fun e w' => e = .returned (.bool true) ∧ Below w.heap.size w w' := by
  obtain ⟨a, cap, fb, fo, rfl, ha, hcells⟩ := hU
  obtain ⟨a', cap', gb, go', rfl, ha', hcells'⟩ := hV
  have HC := Lib.hid hcells
  have HD := Lib.hid hcells'
  clear hcells hcells'
  go_enter Try.func34, Try.ntmps34
  go_wp2_with fail
  go_loopw [5] (fun i wr => ∃ q : Nat, q ≤ L.length ∧ i = .int .i64 (q : Int) ∧ Below w.heap.size w wr) (fun i _ => L.length - (intOf i).toNat)
  case atStart => exact ⟨0, Nat.zero_le _, rfl, Below.refl _ _⟩
  case round =>
    obtain ⟨q, hq, rfl, hB⟩ := hrel
    by_cases hlt : q < L.length
    · obtain ⟨rfl, hfb⟩ := ha (by omega)
      obtain ⟨rfl, hgb⟩ := ha' (by omega)
      obtain ⟨e0, e1, e2, e3, e4, e5⟩ := (HC.out q hlt).below hB hfb
      obtain ⟨d0, d1, d2, d3, d4, d5⟩ := (HD.out q hlt).below hB hgb
      have hi1 : (0 : Int) ≤ (q : Int) ∧ (q : Int) < (L.length : Int) := by omega
      generalize L[q] = x at *
      obtain ⟨x1, x2, x3, x4, x5, x6⟩ := x
      simp only at e0 e1 e2 e3 e4 e5 d0 d1 d2 d3 d4 d5
      go_wp2_with fail
      go_big_quiet (fail)
      go_wp2_with fail
      go_roundw
      case rel => exact ⟨q + 1, by omega, by go_num, belowN hB _⟩
      case measure => simp [intOf]; omega
    · obtain rfl : q = L.length := by omega
      go_wp2_with fail
      go_ret
      exact ⟨rfl, hB⟩
end Mf
end Go.Proofs.Ytpldfdlnhgmnaaa

/-
  The document's answer of chapter 10: may an edit be?
-/
namespace Go.Proofs.Ytpldfdlnhgmnaaa
open Go.RowKit
set_option linter.unusedSimpArgs false
set_option linter.unusedVariables false
namespace Mf
open Op (bytesLess)
def edV (e : Ed) (av dv : Value) : Value := .agg #[.int .u64 e.next, .int .u64 e.seq, .int .u64 e.log, av, dv]
/-- an edit, and where its rows lie -/
structure EdIn (B : Nat) (W : World) (e : Ed) (av dv : Value) : Prop where
  add : Tbs B W av e.add
  drop : Ns B W dv e.drop
  each : ∀ x ∈ e.add, TblIn x
  ds : ∀ d ∈ e.drop, 0 ≤ d ∧ d ≤ 18446744073709551615
  n0 : 0 ≤ e.next
  n1 : e.next ≤ 18446744073709551615
  s0 : 0 ≤ e.seq
  s1 : e.seq ≤ 18446744073709551615
  l0 : 0 ≤ e.log
  l1 : e.log ≤ 18446744073709551615
  many : e.add.length ≤ 1048576
  few : e.drop.length ≤ 1048576
def mayHead (e : Ed) : Prop := e.next ≤ 4611686018427387904 ∧ e.seq ≤ 4611686018427387904 ∧ e.log ≤ 4611686018427387904 ∧ e.add.length ≤ 1000 ∧ e.drop.length ≤ 1000
def mayD (d : Int) : Bool := decide (1 ≤ d) && decide (d ≤ 4611686018427387904)
theorem mayE_head {e : Ed} (h : ¬ mayHead e) : mayE e = false := by
  rw [Bool.eq_false_iff]
  intro h2
  unfold mayE at h2
  simp only [Bool.and_eq_true, decide_eq_true_eq] at h2
  exact h ⟨h2.1.1.1.1.1.1, h2.1.1.1.1.1.2, h2.1.1.1.1.2, h2.1.1.1.2, h2.1.1.2⟩
theorem mayE_rows {e : Ed} (h : mayHead e) : mayE e = (e.add.all mayT && e.drop.all mayD) := by
  obtain ⟨h1, h2, h3, h4, h5⟩ := h
  unfold mayE
  simp only [h1, h2, h3, h4, h5, decide_true, Bool.true_and]
  rfl

set_option maxRecDepth 100000 in
set_option maxHeartbeats 4000000 in
theorem mayR10_any (e : Ed) (av dv : Value) (w : World) (hE : EdIn w.heap.size w e av dv) :
    Calls Try.prog 30 #[edV e av dv] w fun r w' => r = .returned (.bool (mayE e)) ∧ Below w.heap.size w w' := by
  obtain ⟨⟨aa, acap, fb, fo, rfl, ha, hac⟩, ⟨da, dcap, gb, go', rfl, hd, hdc⟩, each, ds, n0, n1, s0, s1, l0, l1, many, few⟩ := hE
  have HMT := Lib.hid (fun (W : World) (x : Tbl) (hx : TblIn x) => show Calls Try.prog 58 #[.agg #[.int .u64 x.num, .int .i64 x.lev, .int .i64 x.siz, .int .i64 x.cnt, .string (Cd.bs x.lo), .string (Cd.bs x.hi)]] W fun e w' => e = .returned (.bool (mayT x)) ∧ Below W.heap.size W w' from mayTableR_any x W hx)
  have HAC := Lib.hid hac
  have HDC := Lib.hid hdc
  have HEA := Lib.hid each
  have HDS := Lib.hid ds
  clear hac hdc each ds
  by_cases hh : mayHead e
  · have HRW := Lib.hid (mayE_rows hh)
    obtain ⟨h1, h2, h3, h4, h5⟩ := hh
    obtain ⟨next, seq, log, add, drop⟩ := e
    unfold edV
    simp only at *
    go_enter Try.func30, Try.ntmps30
    go_wp2_with fail
    clear h1 h2 h3 h4 h5
    obtain ⟨w1, hw1⟩ : ∃ w1, w.alloc (.cells #[.int .u64 next, .int .u64 seq, .int .u64 log, .slice aa add.length acap, .slice da drop.length dcap] 30) = w1 := ⟨_, rfl⟩
    have hb1 : Below w.heap.size w w1 := by rw [← hw1]; exact (Below.refl _ _).alloc (Nat.le_refl _) _
    have hs1 : w.heap.size < w1.heap.size := by rw [← hw1]; simp
    have hc1 : w1.heap[w.heap.size]? = some (.cells #[.int .u64 next, .int .u64 seq, .int .u64 log, .slice aa add.length acap, .slice da drop.length dcap] 30 (0, 0)) := by rw [← hw1]; exact World.alloc_heap_new w _
    have c3 : w1.cell? ⟨w.heap.size, 3, none⟩ = some (.slice aa add.length acap) := by simp [World.cell?, hc1]
    have c4 : w1.cell? ⟨w.heap.size, 4, none⟩ = some (.slice da drop.length dcap) := by simp [World.cell?, hc1]
    rw [hw1]
    clear hw1 hc1
    go_loopw [3] (fun i wr => ∃ q : Nat, q ≤ add.length ∧ i = .int .i64 (q : Int) ∧ (add.take q).all mayT = true ∧ Below w1.heap.size w1 wr) (fun i _ => add.length - (intOf i).toNat)
    case atStart => exact ⟨0, Nat.zero_le _, rfl, rfl, Below.refl _ _⟩
    case round =>
      obtain ⟨q, hq, rfl, hall, hB⟩ := hrel
      have b3 := (hB.cell (p := ⟨w.heap.size, 3, none⟩) hs1).trans c3
      have b4 := (hB.cell (p := ⟨w.heap.size, 4, none⟩) hs1).trans c4
      have hBB := hb1.trans (hB.mono hb1.size)
      by_cases hlt : q < add.length
      · obtain ⟨rfl, hfb⟩ := ha (by omega)
        obtain ⟨e0, e1, e2, e3, e4, e5⟩ := (HAC.out q hlt).below hBB hfb
        have hi1 : (0 : Int) ≤ (q : Int) ∧ (q : Int) < (add.length : Int) := by omega
        have hmem := List.getElem_mem hlt
        have hin := HEA.out _ hmem
        have hsn := List.take_succ_eq_append_getElem hlt
        have HM := Lib.hid (fun W => HMT.out W _ hin)
        generalize add[q] = x at *
        obtain ⟨x1, x2, x3, x4, x5, x6⟩ := x
        simp only at e0 e1 e2 e3 e4 e5 HM
        cases hm : mayT ⟨x1, x2, x3, x4, x5, x6⟩ with
        | true =>
          have HX := Lib.hid (show (add.take (q + 1)).all mayT = true by rw [hsn, List.all_append, hall, List.all_cons, hm]; rfl)
          rw [hm] at HM
          clear hm hmem hin hsn hall HMT
          go_wp2_with (go_at_call 58; (with_reducible refine (HM.out _).mono ?_); rintro e w2 ⟨rfl, hb2⟩)
          go_roundw
          case rel => exact ⟨q + 1, by omega, by go_num, HX.out, hB.trans (hb2.mono hB.size)⟩
          case measure => simp [intOf]; omega
        | false =>
          have HX := Lib.hid (show (add.all mayT && drop.all mayD) = false by
            have : add.all mayT = false := by
              rw [List.all_eq_false]
              exact ⟨_, hmem, by rw [hm]; simp⟩
            rw [this]; rfl)
          rw [hm] at HM
          clear hm hmem hin hsn hall HMT
          go_wp2_with (go_at_call 58; (with_reducible refine (HM.out _).mono ?_); rintro e w2 ⟨rfl, hb2⟩)
          go_ret
          exact ⟨by rw [HRW.out, HX.out]; rfl, hBB.trans (hb2.mono hBB.size)⟩
      · obtain rfl : q = add.length := by omega
        rw [List.take_length] at hall
        have HAL := Lib.hid hall
        obtain ⟨w5, rfl⟩ : ∃ w5 : World, w5 = wr := ⟨_, rfl⟩
        clear hall hlt hq
        go_wp2_with fail
        have hs5 : w.heap.size < w5.heap.size := Nat.lt_of_lt_of_le hs1 hB.size
        go_loopw [5] (fun i wr => ∃ q : Nat, q ≤ drop.length ∧ i = .int .i64 (q : Int) ∧ (drop.take q).all mayD = true ∧ Below w5.heap.size w5 wr) (fun i _ => drop.length - (intOf i).toNat)
        case atStart => exact ⟨0, Nat.zero_le _, rfl, rfl, Below.refl _ _⟩
        case round =>
          obtain ⟨q, hq, rfl, hall, hB6⟩ := hrel
          have b5 := (hB6.cell (p := ⟨w.heap.size, 4, none⟩) hs5).trans b4
          have hBB6 := hBB.trans (hB6.mono hBB.size)
          by_cases hlt : q < drop.length
          · obtain ⟨rfl, hgb⟩ := hd (by omega)
            have e0 := (hBB6.cell (p := ⟨gb, go' + q, none⟩) hgb).trans (HDC.out q hlt)
            have hi1 : (0 : Int) ≤ (q : Int) ∧ (q : Int) < (drop.length : Int) := by omega
            have hmem := List.getElem_mem hlt
            have hsn := List.take_succ_eq_append_getElem hlt
            generalize drop[q] = d at *
            have hbad : mayD d = false → (add.all mayT && drop.all mayD) = false := fun h => by
              have : drop.all mayD = false := by
                rw [List.all_eq_false]
                exact ⟨_, hmem, by rw [h]; simp⟩
              rw [this, Bool.and_false]
            by_cases hd1 : 1 ≤ d
            · by_cases hd2 : d ≤ 4611686018427387904
              · have HX := Lib.hid (show (drop.take (q + 1)).all mayD = true by rw [hsn, List.all_append, hall, List.all_cons, show mayD d = true by simp [mayD, hd1, hd2]]; rfl)
                have hd3 : ¬ d < 1 := by omega
                have hd4 : ¬ 4611686018427387904 < d := by omega
                clear hmem hsn hall hbad
                go_wp2_with fail
                go_roundw
                case rel => exact ⟨q + 1, by omega, by go_num, HX.out, hB6⟩
                case measure => simp [intOf]; omega
              · have HX := Lib.hid (hbad (by simp [mayD, hd2]))
                have hd3 : ¬ d < 1 := by omega
                have hd4 : 4611686018427387904 < d := by omega
                clear hmem hsn hall hbad
                go_wp2_with fail
                go_ret
                exact ⟨by rw [HRW.out, HX.out]; rfl, hBB6⟩
            · have HX := Lib.hid (hbad (by simp [mayD, hd1]))
              have hd3 : d < 1 := by omega
              clear hmem hsn hall hbad
              go_wp2_with fail
              go_ret
              exact ⟨by rw [HRW.out, HX.out]; rfl, hBB6⟩
          · obtain rfl : q = drop.length := by omega
            rw [List.take_length] at hall
            have HDL := Lib.hid hall
            clear hall hlt hq
            go_wp2_with fail
            go_ret
            exact ⟨by rw [HRW.out, HAL.out, HDL.out]; rfl, hBB6⟩
  · have HRW := Lib.hid (mayE_head hh)
    have hor : ¬ e.next ≤ 4611686018427387904 ∨ (e.next ≤ 4611686018427387904 ∧ ¬ e.seq ≤ 4611686018427387904) ∨ (e.next ≤ 4611686018427387904 ∧ e.seq ≤ 4611686018427387904 ∧ ¬ e.log ≤ 4611686018427387904) ∨ (e.next ≤ 4611686018427387904 ∧ e.seq ≤ 4611686018427387904 ∧ e.log ≤ 4611686018427387904 ∧ ¬ e.add.length ≤ 1000) ∨ (e.next ≤ 4611686018427387904 ∧ e.seq ≤ 4611686018427387904 ∧ e.log ≤ 4611686018427387904 ∧ e.add.length ≤ 1000 ∧ ¬ e.drop.length ≤ 1000) := by
      unfold mayHead at hh
      omega
    clear hh
    obtain ⟨next, seq, log, add, drop⟩ := e
    unfold edV
    simp only at *
    rcases hor with h1 | ⟨h1, h2⟩ | ⟨h1, h2, h3⟩ | ⟨h1, h2, h3, h4⟩ | ⟨h1, h2, h3, h4, h5⟩
    all_goals go_enter Try.func30, Try.ntmps30
    all_goals go_wp2_with fail
    all_goals go_ret
    all_goals exact ⟨by rw [HRW.out]; rfl, (Below.refl _ _).alloc (Nat.le_refl _) _⟩
end Mf
end Go.Proofs.Ytpldfdlnhgmnaaa

/-
  The document's answer of chapter 10: are two Lives alike?
-/
namespace Go.Proofs.Ytpldfdlnhgmnaaa
open Go.RowKit
set_option linter.unusedSimpArgs false
set_option linter.unusedVariables false
namespace Mf
structure Lv where
  next : Int
  seq : Int
  log : Int
  t : List (List Tbl)
def lvV (l : Lv) (u0 u1 u2 u3 : Value) : Value := .agg #[.int .u64 l.next, .int .u64 l.seq, .int .u64 l.log, u0, u1, u2, u3]
/-- a Live, and where its four rows lie -/
structure LvIn (B : Nat) (W : World) (l : Lv) (u0 u1 u2 u3 : Value) : Prop where
  four : l.t.length = 4
  r0 : Tbs B W u0 (l.t.getD 0 [])
  r1 : Tbs B W u1 (l.t.getD 1 [])
  r2 : Tbs B W u2 (l.t.getD 2 [])
  r3 : Tbs B W u3 (l.t.getD 3 [])
  len : ∀ r ∈ l.t, r.length ≤ 1048576

set_option maxRecDepth 100000 in
set_option maxHeartbeats 4000000 in
theorem sameLive_eq (l : Lv) (u0 u1 u2 u3 v0 v1 v2 v3 : Value) (w : World) (hU : LvIn w.heap.size w l u0 u1 u2 u3) (hV : LvIn w.heap.size w l v0 v1 v2 v3) :
    Calls Try.prog 11 #[lvV l u0 u1 u2 u3, lvV l v0 v1 v2 v3] w fun e w' => e = .returned (.bool true) ∧ Below w.heap.size w w' := by
  have hlen : ∀ k, (l.t.getD k []).length ≤ 4611686018427387904 := fun k => by
    by_cases h : k < l.t.length
    · rw [List.getD_eq_getElem?_getD, List.getElem?_eq_getElem h, Option.getD_some]
      have := hU.len _ (List.getElem_mem h)
      omega
    · rw [List.getD_eq_getElem?_getD, List.getElem?_eq_none (by omega), Option.getD_none]; decide
  have H0 := Lib.hid (fun W (h : Below w.heap.size w W) => sameTables_eq u0 v0 (l.t.getD 0 []) W (hU.r0.grow h h.size) (hV.r0.grow h h.size) (hlen 0))
  have H1 := Lib.hid (fun W (h : Below w.heap.size w W) => sameTables_eq u1 v1 (l.t.getD 1 []) W (hU.r1.grow h h.size) (hV.r1.grow h h.size) (hlen 1))
  have H2 := Lib.hid (fun W (h : Below w.heap.size w W) => sameTables_eq u2 v2 (l.t.getD 2 []) W (hU.r2.grow h h.size) (hV.r2.grow h h.size) (hlen 2))
  have H3 := Lib.hid (fun W (h : Below w.heap.size w W) => sameTables_eq u3 v3 (l.t.getD 3 []) W (hU.r3.grow h h.size) (hV.r3.grow h h.size) (hlen 3))
  obtain ⟨a0, c0, _, _, rfl, _⟩ := hU.r0
  obtain ⟨a1, c1, _, _, rfl, _⟩ := hU.r1
  obtain ⟨a2, c2, _, _, rfl, _⟩ := hU.r2
  obtain ⟨a3, c3, _, _, rfl, _⟩ := hU.r3
  obtain ⟨e0, d0, _, _, rfl, _⟩ := hV.r0
  obtain ⟨e1, d1, _, _, rfl, _⟩ := hV.r1
  obtain ⟨e2, d2, _, _, rfl, _⟩ := hV.r2
  obtain ⟨e3, d3, _, _, rfl, _⟩ := hV.r3
  clear hU hV hlen
  generalize l.t.getD 0 [] = t0 at *
  generalize l.t.getD 1 [] = t1 at *
  generalize l.t.getD 2 [] = t2 at *
  generalize l.t.getD 3 [] = t3 at *
  obtain ⟨next, seq, log, _⟩ := l
  unfold lvV
  simp only
  go_enter Try.func11, Try.ntmps11
  go_wp2_with fail
  obtain ⟨w1, hw1⟩ : ∃ w1, (w.alloc (.cells #[.int .u64 next, .int .u64 seq, .int .u64 log, .slice a0 t0.length c0, .slice a1 t1.length c1, .slice a2 t2.length c2, .slice a3 t3.length c3] 27)).alloc (.cells #[.int .u64 next, .int .u64 seq, .int .u64 log, .slice e0 t0.length d0, .slice e1 t1.length d1, .slice e2 t2.length d2, .slice e3 t3.length d3] 27) = w1 := ⟨_, rfl⟩
  have hb1 : Below w.heap.size w w1 := by rw [← hw1]; exact ((Below.refl _ _).alloc (Nat.le_refl _) _).alloc (by simp) _
  have hs1 : w.heap.size + 2 ≤ w1.heap.size := by rw [← hw1]; simp
  have hA : w1.heap[w.heap.size]? = some (.cells #[.int .u64 next, .int .u64 seq, .int .u64 log, .slice a0 t0.length c0, .slice a1 t1.length c1, .slice a2 t2.length c2, .slice a3 t3.length c3] 27 (0, 0)) := by rw [← hw1]; exact (Below.heap_alloc _ _ _ (by simp)).trans (World.alloc_heap_new w _)
  have hE : w1.heap[w.heap.size + 1]? = some (.cells #[.int .u64 next, .int .u64 seq, .int .u64 log, .slice e0 t0.length d0, .slice e1 t1.length d1, .slice e2 t2.length d2, .slice e3 t3.length d3] 27 (0, 0)) := by rw [← hw1]; have := World.alloc_heap_new (w.alloc (.cells #[.int .u64 next, .int .u64 seq, .int .u64 log, .slice a0 t0.length c0, .slice a1 t1.length c1, .slice a2 t2.length c2, .slice a3 t3.length c3] 27)) (.cells #[.int .u64 next, .int .u64 seq, .int .u64 log, .slice e0 t0.length d0, .slice e1 t1.length d1, .slice e2 t2.length d2, .slice e3 t3.length d3] 27); rw [World.size_alloc] at this; exact this
  rw [hw1]
  clear hw1
  go_loopw [5] (fun i wr => ∃ q : Nat, q ≤ 4 ∧ i = .int .i64 (q : Int) ∧ Below w1.heap.size w1 wr) (fun i _ => 4 - (intOf i).toNat)
  case atStart => exact ⟨0, by omega, rfl, Below.refl _ _⟩
  case round =>
    obtain ⟨q, hq, rfl, hB⟩ := hrel
    have hBB := hb1.trans (hB.mono hb1.size)
    have gA := (hB.block _ (by omega)).trans hA
    have gE := (hB.block _ (by omega)).trans hE
    have x0 : wr.cell? ⟨w.heap.size, 0, none⟩ = some (.int .u64 next) := by simp [World.cell?, gA]
    have x1 : wr.cell? ⟨w.heap.size, 1, none⟩ = some (.int .u64 seq) := by simp [World.cell?, gA]
    have x2 : wr.cell? ⟨w.heap.size, 2, none⟩ = some (.int .u64 log) := by simp [World.cell?, gA]
    have x3 : wr.cell? ⟨w.heap.size, 3, none⟩ = some (.slice a0 t0.length c0) := by simp [World.cell?, gA]
    have x4 : wr.cell? ⟨w.heap.size, 4, none⟩ = some (.slice a1 t1.length c1) := by simp [World.cell?, gA]
    have x5 : wr.cell? ⟨w.heap.size, 5, none⟩ = some (.slice a2 t2.length c2) := by simp [World.cell?, gA]
    have x6 : wr.cell? ⟨w.heap.size, 6, none⟩ = some (.slice a3 t3.length c3) := by simp [World.cell?, gA]
    have y0 : wr.cell? ⟨w.heap.size + 1, 0, none⟩ = some (.int .u64 next) := by simp [World.cell?, gE]
    have y1 : wr.cell? ⟨w.heap.size + 1, 1, none⟩ = some (.int .u64 seq) := by simp [World.cell?, gE]
    have y2 : wr.cell? ⟨w.heap.size + 1, 2, none⟩ = some (.int .u64 log) := by simp [World.cell?, gE]
    have y3 : wr.cell? ⟨w.heap.size + 1, 3, none⟩ = some (.slice e0 t0.length d0) := by simp [World.cell?, gE]
    have y4 : wr.cell? ⟨w.heap.size + 1, 4, none⟩ = some (.slice e1 t1.length d1) := by simp [World.cell?, gE]
    have y5 : wr.cell? ⟨w.heap.size + 1, 5, none⟩ = some (.slice e2 t2.length d2) := by simp [World.cell?, gE]
    have y6 : wr.cell? ⟨w.heap.size + 1, 6, none⟩ = some (.slice e3 t3.length d3) := by simp [World.cell?, gE]
    clear gA gE
    by_cases h4 : q = 4
    · subst h4
      go_wp2_with fail
      try go_big_quiet (fail)
      try go_wp2_with fail
      go_ret
      exact ⟨rfl, hBB⟩
    · have hq4 : q = 0 ∨ q = 1 ∨ q = 2 ∨ q = 3 := by omega
      have HBQ := Lib.hid hBB
      have HBR := Lib.hid hB
      clear hBB hB
      rcases hq4 with rfl | rfl | rfl | rfl
      all_goals
        go_wp2_with fail
        go_cut [6] from 11 to 20 (fun r wx => r = .bool true ∧ Below w1.heap.size w1 wx)
        case first =>
          go_region_with (go_at_call 34; (first | (with_reducible refine (H0.out _ ?_).mono ?_) | (with_reducible refine (H1.out _ ?_).mono ?_) | (with_reducible refine (H2.out _ ?_).mono ?_) | (with_reducible refine (H3.out _ ?_).mono ?_)); exact HBQ.out.drew; rintro e w2 ⟨rfl, hb2⟩)
          all_goals (try go_wp2_with fail)
          all_goals go_meet
          all_goals refine ⟨rfl, ?_⟩
          all_goals exact HBR.out.drew.trans (hb2.mono HBR.out.size)
        case rest =>
          obtain ⟨rfl, hB3⟩ := hcut
          go_wp2_with fail
          go_roundw
          case rel => first | exact ⟨1, by omega, by go_num, hB3⟩ | exact ⟨2, by omega, by go_num, hB3⟩ | exact ⟨3, by omega, by go_num, hB3⟩ | exact ⟨4, by omega, by go_num, hB3⟩
          case measure => simp [intOf]
end Mf
end Go.Proofs.Ytpldfdlnhgmnaaa

/-
  Plain mathematics of P10.2: an edit's bytes. No program is named here.
-/
namespace Go.Proofs.Ytpldfdlnhgmnaaa
set_option linter.unusedVariables false
namespace Mf
def putTab (x : Tbl) : List UInt8 := Cd.putU x.num.toNat ++ Cd.putU x.lev.toNat ++ Cd.putU x.siz.toNat ++ Cd.putU x.cnt.toNat ++ Cd.putT x.lo ++ Cd.putT x.hi
def putD (d : Int) : List UInt8 := Cd.putU d.toNat
def headE (e : Ed) : List UInt8 := Cd.putU e.next.toNat ++ Cd.putU e.seq.toNat ++ Cd.putU e.log.toNat ++ Cd.putU e.add.length
def loadE (e : Ed) : List UInt8 := headE e ++ e.add.flatMap putTab ++ Cd.putU e.drop.length ++ e.drop.flatMap putD
/-- what Encode answers -/
def encE (e : Ed) : List UInt8 × Nat := if mayE e = true then Fr.put 7 (loadE e) else ([], 1)
/-- what a table that may be is -/
structure TOk (x : Tbl) : Prop where
  n0 : 1 ≤ x.num
  n1 : x.num ≤ 4611686018427387904
  l0 : 0 ≤ x.lev
  l1 : x.lev < 4
  s0 : 1 ≤ x.siz
  s1 : x.siz ≤ 1073741824
  c0 : 1 ≤ x.cnt
  c1 : x.cnt ≤ 1073741824
  lo0 : 1 ≤ x.lo.length
  lo1 : x.lo.length ≤ 96
  hi0 : 1 ≤ x.hi.length
  hi1 : x.hi.length ≤ 96
theorem tok {x : Tbl} (h : mayT x = true) : TOk x := by
  unfold mayT at h
  simp only [Bool.and_eq_true, decide_eq_true_eq] at h
  obtain ⟨⟨⟨⟨⟨⟨⟨⟨⟨⟨⟨⟨h1, h2⟩, h3⟩, h4⟩, h5⟩, h6⟩, h7⟩, h8⟩, h9⟩, h10⟩, h11⟩, h12⟩, h13⟩ := h
  exact ⟨h1, h2, h3, h4, h5, h6, h7, h8, h9, h10, h11, h12⟩
/-- what an edit that may be is -/
structure EOk (e : Ed) : Prop where
  next : e.next ≤ 4611686018427387904
  seq : e.seq ≤ 4611686018427387904
  log : e.log ≤ 4611686018427387904
  add : e.add.length ≤ 1000
  drop : e.drop.length ≤ 1000
  adds : ∀ x ∈ e.add, mayT x = true
  drops : ∀ d ∈ e.drop, 1 ≤ d ∧ d ≤ 4611686018427387904
theorem eok {e : Ed} (h : mayE e = true) : EOk e := by
  unfold mayE at h
  simp only [Bool.and_eq_true, decide_eq_true_eq, List.all_eq_true] at h
  obtain ⟨⟨⟨⟨⟨⟨h1, h2⟩, h3⟩, h4⟩, h5⟩, h6⟩, h7⟩ := h
  exact ⟨h1, h2, h3, h4, h5, h6, h7⟩
theorem eok_may {e : Ed} (h : EOk e) : mayE e = true := by
  unfold mayE
  simp only [Bool.and_eq_true, decide_eq_true_eq, List.all_eq_true]
  exact ⟨⟨⟨⟨⟨⟨h.next, h.seq⟩, h.log⟩, h.add⟩, h.drop⟩, h.adds⟩, h.drops⟩
theorem putT_len {s : List UInt8} (h : s.length ≤ 96) : (Cd.putT s).length ≤ 106 := by
  have := Cd.putU_len10 s.length (by omega)
  unfold Cd.putT
  rw [List.length_append]
  omega
theorem putTab_len {x : Tbl} (h : mayT x = true) : (putTab x).length ≤ 252 := by
  have t := tok h
  have h1 := Cd.putU_len10 x.num.toNat (by have := t.n1; omega)
  have h2 := Cd.putU_len10 x.lev.toNat (by have := t.l1; omega)
  have h3 := Cd.putU_len10 x.siz.toNat (by have := t.s1; omega)
  have h4 := Cd.putU_len10 x.cnt.toNat (by have := t.c1; omega)
  have h5 := putT_len t.lo1
  have h6 := putT_len t.hi1
  unfold putTab
  simp only [List.length_append]
  omega
theorem putTabs_len : ∀ (L : List Tbl), (∀ x ∈ L, mayT x = true) → (L.flatMap putTab).length ≤ 252 * L.length
  | [], _ => by simp
  | x :: r, h => by
    rw [List.flatMap_cons, List.length_append, List.length_cons]
    have := putTab_len (h x (List.mem_cons_self ..))
    have := putTabs_len r (fun q hq => h q (List.mem_cons_of_mem _ hq))
    omega
theorem putDs_len : ∀ (L : List Int), (∀ d ∈ L, 1 ≤ d ∧ d ≤ 4611686018427387904) → (L.flatMap putD).length ≤ 10 * L.length
  | [], _ => by simp
  | x :: r, h => by
    rw [List.flatMap_cons, List.length_append, List.length_cons]
    have := h x (List.mem_cons_self ..)
    have : (putD x).length ≤ 10 := Cd.putU_len10 x.toNat (by omega)
    have := putDs_len r (fun q hq => h q (List.mem_cons_of_mem _ hq))
    omega
theorem headE_len {e : Ed} (h : EOk e) : (headE e).length ≤ 40 := by
  have h1 := Cd.putU_len10 e.next.toNat (by have := h.next; omega)
  have h2 := Cd.putU_len10 e.seq.toNat (by have := h.seq; omega)
  have h3 := Cd.putU_len10 e.log.toNat (by have := h.log; omega)
  have h4 := Cd.putU_len10 e.add.length (by have := h.add; omega)
  unfold headE
  simp only [List.length_append]
  omega
theorem loadE_len {e : Ed} (h : EOk e) : (loadE e).length ≤ 262144 := by
  have h1 := headE_len h
  have h2 := putTabs_len e.add h.adds
  have h3 := putDs_len e.drop h.drops
  have h4 := Cd.putU_len10 e.drop.length (by have := h.drop; omega)
  have := h.add
  have := h.drop
  unfold loadE
  simp only [List.length_append]
  omega
theorem tabs_snoc {L : List Tbl} {q : Nat} (h : q < L.length) : (L.take (q + 1)).flatMap putTab = (L.take q).flatMap putTab ++ putTab L[q] := by
  rw [List.take_succ_eq_append_getElem h, List.flatMap_append]; simp
theorem drops_snoc {L : List Int} {q : Nat} (h : q < L.length) : (L.take (q + 1)).flatMap putD = (L.take q).flatMap putD ++ putD L[q] := by
  rw [List.take_succ_eq_append_getElem h, List.flatMap_append]; simp
end Mf
end Go.Proofs.Ytpldfdlnhgmnaaa

/-
  Plain mathematics of chapter 4 (files): runs, told again as the blocks that they are of.
-/
namespace Go.Proofs.Ytpldfdlnhgmnaaa
namespace Fi

/-- the blocks of a run -/
def runOf (p : Int × Nat) : List Int := (List.range p.2).map fun (j : Nat) => p.1 + (j : Int)
theorem runOf_succ (x : Int) (k : Nat) : runOf (x, k + 1) = x :: runOf (x + 1, k) := by
  unfold runOf
  rw [List.range_succ_eq_map, List.map_cons, List.map_map]
  congr 1
  · simp
  · apply List.map_congr_left; intro j _; simp; omega
theorem runLen_take (l : List Int) : ∀ x, l.take (runLen x l) = runOf (x + 1, runLen x l) := by
  induction l with
  | nil => intro x; simp [runLen, runOf]
  | cons y r ih =>
    intro x
    unfold runLen
    split
    · rename_i h
      rw [List.take_succ_cons, ih y, runOf_succ, h]
    · simp [runOf]
theorem runs_expand (l : List Int) : (runs l).flatMap runOf = l := by
  induction h : l.length using Nat.strongRecOn generalizing l with
  | _ n ih =>
    match l, h with
    | [], _ => rw [runs]; rfl
    | x :: r, h =>
      rw [runs_cons, List.flatMap_cons, runOf_succ, ih (r.drop (runLen x r)).length (by simp at h ⊢; omega) _ rfl, ← runLen_take, List.cons_append, List.take_append_drop]
theorem blocksGo_in {n : Int} : ∀ {l t t' : List Int}, blocksGo n l t = some t' → ∀ b ∈ l, 32 ≤ b ∧ b < n
  | [], _, _, _ => fun b hb => by cases hb
  | x :: l, t, t', h => by
    unfold blocksGo at h
    split at h
    · rename_i hx
      intro b hb
      rcases List.mem_cons.1 hb with rfl | hb
      · exact ⟨hx.1, hx.2.1⟩
      · exact blocksGo_in h b hb
    · cases h
theorem mayGo_in {n : Int} : ∀ {L : List File} {p : Option Dat} {t : List Int}, mayGo n L p t = true → ∀ f ∈ L, (∀ b ∈ f.blocks, 32 ≤ b ∧ b < n) ∧ 0 ≤ f.size ∧ f.name.length ≤ 32
  | [], _, _, _ => fun f hf => by cases hf
  | x :: L, p, t, h => by
    unfold mayGo at h
    rw [Bool.and_eq_true] at h
    obtain ⟨hh, hr⟩ := h
    cases hb : blocksGo n x.blocks t with
    | none => rw [hb] at hr; cases hr
    | some t' =>
      rw [hb] at hr
      intro f hf
      rcases List.mem_cons.1 hf with rfl | hf
      · refine ⟨blocksGo_in hb, ?_, ?_⟩
        · unfold headB at hh; simp at hh; omega
        · unfold headB nameB at hh; simp at hh; omega
      · exact mayGo_in hr f hf
theorem may_in {r : Root} {n : Int} (h : may r n = true) : 1 ≤ r.gen ∧ r.gen ≤ 4611686018427387904 ∧ r.files.length ≤ 64 ∧ ∀ f ∈ r.files, (∀ b ∈ f.blocks, 32 ≤ b ∧ b < n) ∧ 0 ≤ f.size ∧ f.name.length ≤ 32 := by
  unfold may at h
  simp only [Bool.and_eq_true, decide_eq_true_eq] at h
  exact ⟨h.1.1.1, h.1.1.2, h.1.2, mayGo_in h.2⟩

theorem nodup_len : ∀ (N : Nat) (l : List Nat), l.Nodup → (∀ b ∈ l, b < N) → l.length ≤ N
  | 0, [], _, _ => Nat.le_refl _
  | 0, b :: _, _, h => by have := h b (List.mem_cons_self ..); omega
  | N + 1, l, hn, h => by
    by_cases hm : N ∈ l
    · have := nodup_len N (l.erase N) (hn.erase N) (fun b hb => by
        have h1 := (hn.mem_erase_iff).1 hb
        have := h b h1.2
        have := h1.1
        omega)
      rw [List.length_erase_of_mem hm] at this
      omega
    · have := nodup_len N l hn (fun b hb => by
        have := h b hb
        have : b ≠ N := fun e => hm (e ▸ hb)
        omega)
      omega
theorem blocksGo_nodup {n : Int} : ∀ {l t t' : List Int}, blocksGo n l t = some t' → t.Nodup → (∀ b ∈ t, 32 ≤ b ∧ b < n) → t'.Nodup ∧ t'.length = t.length + l.length ∧ ∀ b ∈ t', 32 ≤ b ∧ b < n
  | [], t, t', h, hn, hb => by
    simp only [blocksGo, Option.some.injEq] at h
    subst h
    exact ⟨hn, rfl, hb⟩
  | x :: l, t, t', h, hn, hb => by
    unfold blocksGo at h
    split at h
    · rename_i hx
      obtain ⟨h1, h2, h3⟩ := blocksGo_nodup h (List.nodup_cons.2 ⟨hx.2.2, hn⟩) (fun b hb' => by
        rcases List.mem_cons.1 hb' with rfl | hb'
        · exact ⟨hx.1, hx.2.1⟩
        · exact hb b hb')
      exact ⟨h1, by rw [h2, List.length_cons, List.length_cons]; omega, h3⟩
    · cases h
theorem ints_len {n : Int} (hn : n ≤ 16384) (t : List Int) (hd : t.Nodup) (hb : ∀ b ∈ t, 32 ≤ b ∧ b < n) : t.length ≤ 16384 := by
  have h1 : (t.map Int.toNat).Nodup := by
    induction t with
    | nil => simp
    | cons x r ih =>
      have hx := List.nodup_cons.1 hd
      rw [List.map_cons, List.nodup_cons]
      refine ⟨fun hm => ?_, ih hx.2 (fun b h => hb b (List.mem_cons_of_mem _ h))⟩
      obtain ⟨y, hy, e⟩ := List.mem_map.1 hm
      have a1 := hb x (List.mem_cons_self ..)
      have a2 := hb y (List.mem_cons_of_mem _ hy)
      have : y = x := by omega
      exact hx.1 (this ▸ hy)
  have := nodup_len 16384 _ h1 (fun b h => by
    obtain ⟨y, hy, rfl⟩ := List.mem_map.1 h
    have := hb y hy
    omega)
  simpa using this
theorem mayGo_len {n : Int} (hn : n ≤ 16384) : ∀ {L : List File} {p : Option Dat} {t : List Int}, mayGo n L p t = true → t.Nodup → (∀ b ∈ t, 32 ≤ b ∧ b < n) → ∀ f ∈ L, f.blocks.length ≤ 16384 ∧ (f.blocks.length : Int) = takes f.size
  | [], _, _, _, _, _ => fun f hf => by cases hf
  | x :: L, p, t, h, hd, hb => by
    unfold mayGo at h
    rw [Bool.and_eq_true] at h
    obtain ⟨hh, hr⟩ := h
    cases hbg : blocksGo n x.blocks t with
    | none => rw [hbg] at hr; cases hr
    | some t' =>
      rw [hbg] at hr
      obtain ⟨h1, h2, h3⟩ := blocksGo_nodup hbg hd hb
      intro f hf
      rcases List.mem_cons.1 hf with rfl | hf
      · have := ints_len hn t' h1 h3
        unfold headB at hh
        simp at hh
        exact ⟨by omega, hh.2⟩
      · exact mayGo_len hn hr h1 h3 f hf
end Fi
end Go.Proofs.Ytpldfdlnhgmnaaa

/-
  Plain mathematics of chapter 3 (block): a disk as a state, and what each call makes of it.
-/
namespace Go.Proofs.Ytpldfdlnhgmnaaa
namespace Bl
open Go.RowKit

abbrev Dat := List UInt8
structure St where
  safe : List Dat
  wait : List (Nat × Dat)
  down : Bool
  armed : Nat
  acts : Nat
  epochs : Nat

def noughts : Dat := List.replicate 256 0
def new (n : Nat) : St := ⟨List.replicate n noughts, [], false, 0, 0, 0⟩
/-- the last pending write of a block -/
def lastW (wait : List (Nat × Dat)) (k : Nat) : Option Dat := (wait.reverse.find? fun x => x.1 == k).map (·.2)
def readOf (σ : St) (k : Nat) : Dat := (lastW σ.wait k).getD (σ.safe.getD k [])
def inR (σ : St) (i : Int) : Prop := 0 ≤ i ∧ i < σ.safe.length
instance (σ : St) (i : Int) : Decidable (inR σ i) := by unfold inR; infer_instance
def read (σ : St) (i : Int) : Dat × Nat := if σ.down then ([], 4) else if inR σ i then (readOf σ i.toNat, 0) else ([], 1)
/-- the power of an act: the state behind it, and whether it goes -/
def act (σ : St) : St × Bool :=
  if σ.armed = 0 then ({ σ with acts := σ.acts + 1 }, false)
  else if σ.armed = 1 then ({ σ with acts := σ.acts + 1, armed := 0, down := true }, true)
  else ({ σ with acts := σ.acts + 1, armed := σ.armed - 1 }, false)
def write (σ : St) (i : Int) (s : Dat) : St × Nat :=
  if σ.down then (σ, 4) else if inR σ i ∧ s.length = 256 then
    ((act { σ with wait := σ.wait ++ [(i.toNat, s)] }).1, if (act σ).2 then 4 else 0)
  else (σ, 1)
def setAll (safe : List Dat) (wait : List (Nat × Dat)) : List Dat := wait.foldl (fun l x => l.set x.1 x.2) safe
def sync (σ : St) : St × Nat :=
  if σ.down then (σ, 4) else if (act σ).2 then ((act σ).1, 4)
  else ({ (act σ).1 with safe := setAll σ.safe σ.wait, wait := [] }, 0)
def arm (σ : St) (n : Int) : St := { σ with armed := n.toNat }
def clip (n : Int) : Nat := min n.toNat 256
/-- a pending write at a loss of power -/
def keepOne (keep : List Bool) (torn : Int) (n : Nat) (l : List Dat) (k : Nat) (x : Nat × Dat) : List Dat :=
  if (k : Int) = torn then l.set x.1 (x.2.take n ++ (l.getD x.1 []).drop n)
  else if keep.getD k false then l.set x.1 x.2 else l
def keepGo (keep : List Bool) (torn : Int) (n : Nat) : Nat → List (Nat × Dat) → List Dat → List Dat
  | _, [], l => l
  | k, x :: r, l => keepGo keep torn n (k + 1) r (keepOne keep torn n l k x)
def crash (σ : St) (keep : List Bool) (torn bytes : Int) : St :=
  { σ with safe := keepGo keep torn (clip bytes) 0 σ.wait σ.safe, wait := [], down := false, armed := 0, epochs := σ.epochs + 1 }
/-- what every state keeps -/
structure Ok (σ : St) : Prop where
  blocks : σ.safe.length ≤ 16384
  full : ∀ x ∈ σ.safe, x.length = 256
  inW : ∀ x ∈ σ.wait, x.1 < σ.safe.length ∧ x.2.length = 256
  armed : σ.armed ≤ 9223372036854775807

theorem act_safe (σ : St) : (act σ).1.safe = σ.safe ∧ (act σ).1.wait = σ.wait ∧ (act σ).1.acts = σ.acts + 1 ∧ (act σ).1.epochs = σ.epochs ∧ (act σ).1.armed ≤ σ.armed := by
  unfold act; split
  · exact ⟨rfl, rfl, rfl, rfl, Nat.le_refl _⟩
  · split
    · exact ⟨rfl, rfl, rfl, rfl, Nat.zero_le _⟩
    · exact ⟨rfl, rfl, rfl, rfl, Nat.sub_le _ _⟩
theorem Ok.act {σ : St} (h : Ok σ) : Ok (act σ).1 := by
  obtain ⟨e1, e2, _, _, e5⟩ := act_safe σ
  exact ⟨by rw [e1]; exact h.blocks, by rw [e1]; exact h.full, by rw [e1, e2]; exact h.inW, Nat.le_trans e5 h.armed⟩
theorem new_ok {n : Nat} (h : n ≤ 16384) : Ok (new n) := ⟨by simpa [new] using h, fun x hx => by have := List.eq_of_mem_replicate hx; rw [this]; exact List.length_replicate, fun x hx => by simp [new] at hx, by simp [new]⟩
theorem Ok.write {σ : St} (h : Ok σ) (i : Int) (s : Dat) : Ok (write σ i s).1 := by
  unfold Bl.write
  split
  · exact h
  · split
    · rename_i h2
      obtain ⟨⟨h0, h1⟩, hs⟩ := h2
      refine Ok.act ⟨h.blocks, h.full, fun x hx => ?_, h.armed⟩
      rcases List.mem_append.1 hx with hx | hx
      · exact h.inW x hx
      · simp at hx; subst hx; exact ⟨by simp only; omega, hs⟩
    · exact h
theorem setAll_len (wait : List (Nat × Dat)) : ∀ safe : List Dat, (setAll safe wait).length = safe.length := by
  induction wait with
  | nil => intro safe; rfl
  | cons x r ih => intro safe; show (setAll (safe.set x.1 x.2) r).length = _; rw [ih]; simp
theorem setAll_full (wait : List (Nat × Dat)) : ∀ safe : List Dat, (∀ x ∈ safe, x.length = 256) → (∀ x ∈ wait, x.2.length = 256) → ∀ x ∈ setAll safe wait, x.length = 256 := by
  induction wait with
  | nil => intro safe h _; exact h
  | cons y r ih =>
    intro safe h hw
    refine ih (safe.set y.1 y.2) (fun x hx => ?_) (fun x hx => hw x (List.mem_cons_of_mem _ hx))
    rcases List.mem_or_eq_of_mem_set hx with hx | hx
    · exact h x hx
    · rw [hx]; exact hw y (List.mem_cons_self ..)
theorem Ok.sync {σ : St} (h : Ok σ) : Ok (sync σ).1 := by
  unfold Bl.sync
  split
  · exact h
  · split
    · exact h.act
    · exact ⟨by simp only [setAll_len]; exact h.blocks, setAll_full _ _ h.full (fun x hx => (h.inW x hx).2), fun x hx => by simp at hx, h.act.armed⟩
theorem Ok.arm {σ : St} (h : Ok σ) {n : Int} (hn : n ≤ 9223372036854775807) : Ok (arm σ n) := ⟨h.blocks, h.full, h.inW, by simp only [Bl.arm]; omega⟩
theorem keepOne_len (keep : List Bool) (torn : Int) (n : Nat) (l : List Dat) (k : Nat) (x : Nat × Dat) : (keepOne keep torn n l k x).length = l.length := by
  unfold keepOne; split
  · simp
  · split <;> simp
theorem getD_len {l : List Dat} (h : ∀ x ∈ l, x.length = 256) {i : Nat} (hi : i < l.length) : (l.getD i []).length = 256 := by
  rw [List.getD_eq_getElem?_getD, List.getElem?_eq_getElem hi]; exact h _ (List.getElem_mem hi)
theorem keepOne_full {keep : List Bool} {torn : Int} {n : Nat} {l : List Dat} {k : Nat} {x : Nat × Dat} (h : ∀ x ∈ l, x.length = 256) (hx : x.1 < l.length ∧ x.2.length = 256) (hn : n ≤ 256) : ∀ y ∈ keepOne keep torn n l k x, y.length = 256 := by
  unfold keepOne; split
  · intro y hy
    rcases List.mem_or_eq_of_mem_set hy with hy | hy
    · exact h y hy
    · have := getD_len h hx.1
      rw [hy, List.length_append, List.length_take, List.length_drop]; omega
  · split
    · intro y hy
      rcases List.mem_or_eq_of_mem_set hy with hy | hy
      · exact h y hy
      · rw [hy]; exact hx.2
    · exact h
theorem keepGo_ok {keep : List Bool} {torn : Int} {n : Nat} (hn : n ≤ 256) : ∀ (wait : List (Nat × Dat)) (k : Nat) (l : List Dat), (∀ x ∈ l, x.length = 256) → (∀ x ∈ wait, x.1 < l.length ∧ x.2.length = 256) →
    (keepGo keep torn n k wait l).length = l.length ∧ ∀ x ∈ keepGo keep torn n k wait l, x.length = 256
  | [], _, l, h, _ => ⟨rfl, h⟩
  | x :: r, k, l, h, hw => by
    have hl := keepOne_len keep torn n l k x
    have := keepGo_ok (keep := keep) (torn := torn) hn r (k + 1) (keepOne keep torn n l k x) (keepOne_full h (hw x (List.mem_cons_self ..)) hn) (fun y hy => by rw [hl]; exact hw y (List.mem_cons_of_mem _ hy))
    exact ⟨this.1.trans hl, this.2⟩
theorem clip_le (n : Int) : clip n ≤ 256 := Nat.min_le_right _ _
theorem Ok.crash {σ : St} (h : Ok σ) (keep : List Bool) (torn bytes : Int) : Ok (crash σ keep torn bytes) := by
  have := keepGo_ok (keep := keep) (torn := torn) (clip_le bytes) σ.wait 0 σ.safe h.full h.inW
  exact ⟨by simp only [Bl.crash, this.1]; exact h.blocks, this.2, fun x hx => by simp [Bl.crash] at hx, by simp [Bl.crash]⟩
end Bl
end Go.Proofs.Ytpldfdlnhgmnaaa
