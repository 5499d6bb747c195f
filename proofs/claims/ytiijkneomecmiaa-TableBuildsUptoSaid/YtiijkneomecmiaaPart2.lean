import Derived.RangeFuncNested
import Derived.RangeFuncLeaves
import Derived.RangeFuncBox
import Derived.Below
import Derived.Deep.Draws
import Derived.WalkSmall
import Derived.WalkKit
import Derived.WalkLawsBesides
import Derived.BigQuiet
import Derived.Deep.QuietTactic
import Derived.Deep.LoopGhost
import Derived.LoopTactic
import Derived.Shelf.Abstract
import Derived.OwnWalkIn
import Derived.TacticsInMore
import Derived.LoopNIn
import Derived.LoopIn
import Derived.Lib.AppendStr
import Derived.Lib.BufStepsIn
import Derived.Deep.RegionWith
import Derived.Deep.DeepCutAuto
import Derived.Deep.Cut
import Derived.Deep.CutRange
import Derived.Test.YtiijkneomecmiaaPart1
/-
  Ranges over a function whose iterator has state of its own, in cells and in loops within it: what an iterator owes, what its caller owes.
  The blocks that are private to the iterator (and to the loop's book-keeping) are told by name: a set R that grows.
-/
namespace Go.Proofs.Ytiijkneomecmiaa
open Go.RowKit
set_option linter.unusedVariables false
namespace Sq

abbrev Blocks := Nat → Prop

/-- of the blocks of T that lay none has turned -/
structure Kept (T : Blocks) (w w' : World) : Prop where
  os : w'.os = w.os
  tape : w'.tape = w.tape
  output : w'.output = w.output
  size : w.heap.size ≤ w'.heap.size
  block : ∀ k, T k → k < w.heap.size → w'.heap[k]? = w.heap[k]?

theorem Kept.refl (T : Blocks) (w : World) : Kept T w w := ⟨rfl, rfl, rfl, Nat.le_refl _, fun _ _ _ => rfl⟩
theorem Kept.trans {T : Blocks} {a b c : World} (h : Kept T a b) (k : Kept T b c) : Kept T a c :=
  ⟨k.os.trans h.os, k.tape.trans h.tape, k.output.trans h.output, Nat.le_trans h.size k.size, fun i hi hl => (k.block i hi (Nat.lt_of_lt_of_le hl h.size)).trans (h.block i hi hl)⟩
theorem Kept.less {T T' : Blocks} {a b : World} (h : Kept T a b) (hT : ∀ k, T' k → k < a.heap.size → T k) : Kept T' a b :=
  ⟨h.os, h.tape, h.output, h.size, fun i hi hl => h.block i (hT i hi hl) hl⟩
theorem Kept.alloc (T : Blocks) (w : World) (o : Obj) : Kept T w (w.alloc o) :=
  ⟨rfl, rfl, rfl, by simp, fun k _ hl => Below.heap_alloc _ _ _ hl⟩
theorem Kept.drew (T : Blocks) (w : World) : Kept T w w.drew := ⟨rfl, rfl, rfl, Nat.le_refl _, fun _ _ _ => rfl⟩
theorem Kept.drewN (T : Blocks) (w : World) (n : Nat) : Kept T w (w.drewN n) := ⟨rfl, rfl, rfl, Nat.le_refl _, fun _ _ _ => rfl⟩
theorem Kept.setCell {T : Blocks} (w : World) {p : Addr} (v : Value) (h : ¬ T p.block) : Kept T w (w.setCell p v) :=
  ⟨rfl, rfl, rfl, by simp [World.setCell], fun k hk _ => Below.heap_setCell _ _ _ _ (fun e => h (e ▸ hk))⟩
theorem Kept.putObj {T : Blocks} (w : World) {l : Nat} (o : Obj) (h : ¬ T l) : Kept T w (w.putObj l o) :=
  ⟨rfl, rfl, rfl, by simp, fun k hk _ => World.putObj_heap_other (fun e => h (e ▸ hk))⟩
theorem Kept.grown {T : Blocks} {w w' : World} {row : Option Nat} (hg : w.grownBy w' row) (h : ∀ r, row = some r → ¬ T r) : Kept T w w' :=
  ⟨hg.os, hg.tape, hg.output, hg.size, fun k hk hl => hg.block k hl (fun e => h k e.symm hk)⟩
theorem Kept.of_below {T : Blocks} {w w' : World} (h : Below w.heap.size w w') : Kept T w w' :=
  ⟨h.os, h.tape, h.output, h.size, fun k _ hl => h.block k hl⟩
theorem Kept.below {T : Blocks} {w w' : World} {B : Nat} (h : Kept T w w') (hT : ∀ k, k < B → T k) (hB : B ≤ w.heap.size) : Below B w w' :=
  ⟨h.os, h.tape, h.output, h.size, fun k hk => h.block k (hT k hk) (Nat.lt_of_lt_of_le hk hB)⟩
theorem Kept.cell {T : Blocks} {w w' : World} (h : Kept T w w') {p : Addr} {v : Value} (hT : T p.block) (hc : w.cell? p = some v) : w'.cell? p = some v := by
  have hl : p.block < w.heap.size := by
    obtain ⟨o, ho, _⟩ := cells_of_cell hc
    exact (Array.getElem?_eq_some_iff.1 ho).1
  rw [← hc]
  exact World.cell?_of_block (w := w) (h.block _ hT hl)
theorem Kept.boxed {T : Blocks} {w w' : World} (h : Kept T w w') {B : Nat} {t : TypeId} {v : Value} (hT : T B) (hb : Boxed w B t v) : Boxed w' B t v := (h.block B hT hb.lt).trans hb

/-- A STEP OF THE ITERATOR's OWN: of what lay only blocks of R have turned; R' is R and new blocks. -/
structure Step (R R' : Blocks) (w w' : World) : Prop where
  kept : Kept (fun k => ¬ R k) w w'
  sub : ∀ k, R k → R' k
  new : ∀ k, R' k → R k ∨ w.heap.size ≤ k

theorem Step.refl (R : Blocks) (w : World) : Step R R w w := ⟨Kept.refl _ _, fun _ h => h, fun _ h => .inl h⟩
theorem Step.alloc (R : Blocks) (w : World) (o : Obj) : Step R (fun k => R k ∨ k = w.heap.size) w (w.alloc o) :=
  ⟨Kept.alloc _ _ _, fun _ h => .inl h, fun _ h => h.elim .inl (fun e => .inr (Nat.le_of_eq e.symm))⟩
theorem Step.alloc0 (R : Blocks) (w : World) (o : Obj) : Step R R w (w.alloc o) := ⟨Kept.alloc _ _ _, fun _ h => h, fun _ h => .inl h⟩
theorem Step.below {R : Blocks} {w w' : World} (h : Below w.heap.size w w') : Step R R w w' := ⟨Kept.of_below h, fun _ h => h, fun _ h => .inl h⟩
theorem Step.setCell {R : Blocks} (w : World) {p : Addr} (v : Value) (h : R p.block) : Step R R w (w.setCell p v) := ⟨Kept.setCell _ _ (fun hn => hn h), fun _ h => h, fun _ h => .inl h⟩
theorem Step.putObj {R : Blocks} (w : World) {l : Nat} (o : Obj) (h : R l) : Step R R w (w.putObj l o) := ⟨Kept.putObj _ _ (fun hn => hn h), fun _ h => h, fun _ h => .inl h⟩
theorem Step.drew (R : Blocks) (w : World) : Step R R w w.drew := ⟨Kept.drew _ _, fun _ h => h, fun _ h => .inl h⟩
theorem Step.trans {R R' R'' : Blocks} {a b c : World} (h : Step R R' a b) (k : Step R' R'' b c) : Step R R'' a c :=
  ⟨⟨k.kept.os.trans h.kept.os, k.kept.tape.trans h.kept.tape, k.kept.output.trans h.kept.output, Nat.le_trans h.kept.size k.kept.size, fun i hi hl =>
      (k.kept.block i (fun hr => (h.new i hr).elim hi (fun h2 => by omega)) (Nat.lt_of_lt_of_le hl h.kept.size)).trans (h.kept.block i hi hl)⟩,
    fun i hi => k.sub i (h.sub i hi), fun i hi => (k.new i hi).elim (h.new i) (fun hl => .inr (Nat.le_trans h.kept.size hl))⟩

/-- what the caller says abides every step of the iterator's own -/
def Steady {β : Type} (J : Blocks → β → World → Prop) : Prop := ∀ R R' s W W', J R s W → Step R R' W W' → J R' s W'

theorem Steady.and {β : Type} {J J' : Blocks → β → World → Prop} (h : Steady J) (h' : Steady J') : Steady (fun R s W => J R s W ∧ J' R s W) :=
  fun R R' s W W' hs st => ⟨h R R' s W W' hs.1 st, h' R R' s W W' hs.2 st⟩
theorem Steady.ex {β γ : Type} {J : γ → Blocks → β → World → Prop} (h : ∀ c, Steady (J c)) : Steady (fun R s W => ∃ c, J c R s W) :=
  fun R R' s W W' ⟨c, hs⟩ st => ⟨c, h c R R' s W W' hs st⟩
theorem Steady.pure {β : Type} (p : β → Prop) : Steady (fun _ s (_ : World) => p s) := fun _ _ _ _ _ hs _ => hs
theorem Steady.no {β : Type} : Steady (fun _ (_ : β) (_ : World) => False) := fun _ _ _ _ _ hs _ => hs
theorem step_not {R R' : Blocks} {W W' : World} (st : Step R R' W W') {b : Nat} (hl : b < W.heap.size) (hn : ¬ R b) : ¬ R' b :=
  fun h => (st.new b h).elim hn (fun h2 => by omega)
theorem step_obj {R R' : Blocks} {W W' : World} (st : Step R R' W W') {b : Nat} {o : Obj} (ho : W.heap[b]? = some o) (hn : ¬ R b) : W'.heap[b]? = some o ∧ ¬ R' b :=
  ⟨(st.kept.block b hn (Array.getElem?_eq_some_iff.1 ho).1).trans ho, step_not st (Array.getElem?_eq_some_iff.1 ho).1 hn⟩
theorem Steady.obj {β : Type} (b : Nat) (o : β → Obj) : Steady (fun R s W => W.heap[b]? = some (o s) ∧ ¬ R b) := fun _ _ _ _ _ hs st => step_obj st hs.1 hs.2
theorem Steady.box {β : Type} (b : Nat) (t : TypeId) (v : β → Value) : Steady (fun R s W => Boxed W b t (v s) ∧ ¬ R b) := fun _ _ _ _ _ hs st => step_obj st hs.1 hs.2
theorem Steady.kept {β : Type} (T : Blocks) (w : World) : Steady (fun R (_ : β) W => Kept T w W ∧ ∀ k, T k → k < w.heap.size → ¬ R k) := fun R R' s W W' hs st =>
  ⟨⟨st.kept.os.trans hs.1.os, st.kept.tape.trans hs.1.tape, st.kept.output.trans hs.1.output, Nat.le_trans hs.1.size st.kept.size, fun k hk hl =>
      (st.kept.block k (hs.2 k hk hl) (Nat.lt_of_lt_of_le hl hs.1.size)).trans (hs.1.block k hk hl)⟩,
    fun k hk hl hr => step_not st (Nat.lt_of_lt_of_le hl hs.1.size) (hs.2 k hk hl) hr⟩
theorem Steady.row {β : Type} (n₀ : Nat) (e : TypeId) (size : Nat) (v : β → Value) (n : β → Nat) (f : β → List Value) :
    Steady (fun R s W => W.ownsRow n₀ e size (v s) (n s) (f s) ∧ ∀ g, (v s).ownBlock = some g → ¬ R g) := by
  rintro R R' s W W' ⟨hs, hn⟩ st
  rcases hs with ⟨h0, h1 | ⟨g, cap, cur, h1, h2, h3, h4⟩⟩
  · exact ⟨⟨h0, .inl h1⟩, fun g hg => by rw [h1.1] at hg; simp [Value.ownBlock] at hg⟩
  · have hg : ¬ R g := hn g (by rw [h1]; rfl)
    obtain ⟨k1, k2⟩ := step_obj st h3 hg
    refine ⟨⟨h0, .inr ⟨g, cap, cur, h1, h2, k1, h4⟩⟩, fun g' hg' => ?_⟩
    rw [h1] at hg'
    obtain rfl : g = g' := by simpa [Value.ownBlock] using hg'
    exact k2

theorem Step.or {R R' : Blocks} {X Y : World} (M : Blocks) (st : Step R R' X Y) : Step (fun k => R k ∨ M k) (fun k => R' k ∨ M k) X Y :=
  ⟨st.kept.less fun k hk _ h => hk (.inl h), fun k h => h.elim (fun h => .inl (st.sub k h)) .inr, fun k h => h.elim (fun h => (st.new k h).elim (fun h => .inl (.inl h)) .inr) (fun h => .inl (.inr h))⟩
theorem Steady.or {β γ : Type} {J : Blocks → β → World → Prop} (h : Steady J) (M : Blocks) (f : γ → β) : Steady (fun R s W => J (fun k => R k ∨ M k) (f s) W) :=
  fun _ _ _ _ _ hs st => h _ _ _ _ _ hs (st.or M)

theorem room_none {F : Fence} (hd : F.depth = none) (k : Nat) : F.room k := fun d h => by rw [hd] at h; cases h
/-- where no depth is asked the figures are all one -/
theorem anyDepth {F : Fence} (hd : F.depth = none) {m : Nat} (m' : Nat) {P : Program} {l : Nat} {args : Array Value} {W : World} {R : Ending → World → Prop} (h : YieldAt F m P l args W R) : YieldAt F m' P l args W R := by
  obtain ⟨fn, tmps, assign, body, hy, hR⟩ := h
  exact ⟨fn, tmps, assign, body, hy, hR.1, fun c cs _ => hR.2 c cs (room_none hd _)⟩

theorem round_in {F : Fence} {m : Nat} {P : Program} {l f : Nat} {tmps : Array Value} {assign body : Code} {w : World} {R : Ending → World → Prop} (lr : Nat) (h : RoundIn F m P l f tmps assign body w R) : RoundIn (F.inRound lr) m P l f tmps assign body w R := h

/-- WHAT AN ITERATOR OWES: called at whatever loop's yield, it hands on a row's elements one by one: S of all, Sp of each beginning. T: the blocks that it reads and does not write. -/
def SeqC {α : Type} (F : Fence) (n : Nat) (P : Program) (g : Nat) (lb : Array Value) (encs : α → Array Value) (T : Blocks) (S Sp : List α → Prop) (w : World) : Prop :=
  ∀ (l : Nat) (J Jx : Blocks → List α → World → Prop) (W : World), Kept T w W → Steady J → Steady Jx →
    (∀ R pre x W1, J R pre W1 → (∀ k, R k → W.heap.size ≤ k ∧ k < W1.heap.size) → Sp (pre ++ [x]) → YieldAt F (n - 1) P l (encs x) W1 fun e W' =>
      (e = .returned (.bool true) ∧ J R (pre ++ [x]) W' ∧ Kept (fun k => R k ∨ T k) W1 W') ∨ (e = .returned (.bool false) ∧ Jx R (pre ++ [x]) W' ∧ Kept (fun k => R k ∨ T k) W1 W')) →
    J (fun _ => False) [] W →
    CallsIn F n P g (#[.func (.yield l) #[] #[]] ++ lb) W fun e W' => (∃ v, e = .returned v) ∧ ((∃ xs R, S xs ∧ J R xs W') ∨ (∃ pre R, Sp pre ∧ Jx R pre W'))

/-- HOW THE BODY OF A ROUND MAY BE LEFT. -/
def post {α : Type} (T : Blocks) (I : Blocks → List α → World → Prop) (Ix : Code → Blocks → List α → World → Prop) (R : Blocks) (xs : List α) (W : World) : Exit → Act → World → Prop
  | .normal, _, W' => Kept (fun k => R k ∨ T k) W W' ∧ I R xs W'
  | .ret, _, W' => Kept (fun k => R k ∨ T k) W W' ∧ Ix .ret R xs W'
  | .exit id, _, W' => Kept (fun k => R k ∨ T k) W W' ∧ Ix (.exit id) R xs W'
  | .goto t, _, W' => Kept (fun k => R k ∨ T k) W W' ∧ Ix (.goto t) R xs W'
  | .panic _, _, _ => False
  | .outgrown, _, _ => False

variable {F : Fence} {n : Nat} {P : Program}

/-- THE STATEMENT 'for .. := range seq { body }', outside of every other such loop's round. -/
theorem wp_range {α : Type} {g : Operand} {ps : Array Tmp} {assign body : Code} {Q : Exit → Act → World → Prop} {a : Act} {w : World}
    (hro : F.round = none) (h1 : 1 ≤ n) {gf : Nat} {lb : Array Value} (hg : a.eval g = .func (.func gf) #[] lb) (hFg : F.fn gf) (eg : ∀ args w, (callFunc gf args).run P w = .ok (.enter gf args) w)
    {encs : α → Array Value} {T : Blocks} {S Sp : List α → Prop} (hseq : SeqC F (n - 1) P gf lb encs T S Sp w) (hT : ∀ k, T k → k < w.heap.size) (hps : ∀ x, (encs x).size = ps.size)
    (I : Blocks → List α → World → Prop) (Ix : Code → Blocks → List α → World → Prop) (Ia : Act → α → Blocks → List α → World → Prop)
    (hI : Steady I) (hIx : ∀ c, Steady (Ix c)) (hIa : ∀ a' x, Steady (Ia a' x)) (h0 : I (fun _ => False) [] w)
    (hassign : ∀ (l : Nat) (R : Blocks) (pre : List α) (x : α) (W : World), (∀ k, R k → w.heap.size ≤ k ∧ k < W.heap.size) → Sp (pre ++ [x]) → I R pre W →
      assign.wpIn (F.inRound l) (n - 1 - 1) P (Exit.then (fun a' W' => Kept (fun k => R k ∨ T k) W W' ∧ Ia a' x R pre W') (fun _ _ _ => False)) { tmps := (ps.zip (encs x)).foldl (fun t (p, v) => t.setIfInBounds p v) a.tmps, defers := [] } W)
    (hbody : ∀ (l : Nat) (R : Blocks) (pre : List α) (x : α) (a' : Act) (W : World), R l → (∃ r, W.heap[l]? = some (.loop r)) → (∀ k, R k → w.heap.size ≤ k ∧ k < W.heap.size) → Sp (pre ++ [x]) → Ia a' x R pre W →
      body.wpIn (F.inRound l) (n - 1 - 1) P (post T I Ix R (pre ++ [x]) W) a' W)
    (hdone : ∀ (D : Nat) (R : Blocks) (xs : List α) (W : World), w.heap.size ≤ D → R D → S xs → I R xs W → W.heap[D]? = some (.deferred (some [])) → Q .normal { a with defers := { target := .collected D, args := #[] } :: a.defers } W)
    (hstop : ∀ (D : Nat) (R : Blocks) (c : Code) (pre : List α) (W : World), w.heap.size ≤ D → R D → Sp pre → Ix c R pre W → W.heap[D]? = some (.deferred (some [])) → c.wpIn F n P Q { a with defers := { target := .collected D, args := #[] } :: a.defers } W) :
    (Code.rangeFunc g ps assign body).wpIn F n P Q a w := by
  refine wpIn_rangeFunc ?_
  intro fn hfn
  rw [hro]
  obtain ⟨rec, hrec⟩ : ∃ rec : LoopState → Option Code → Loop, rec = fun st pe => { state := st, pending := pe, fn, tmps := a.tmps, params := ps, assign, body, defers := w.heap.size } := ⟨_, rfl⟩
  obtain ⟨D, hD⟩ : ∃ D, D = w.heap.size := ⟨_, rfl⟩
  obtain ⟨W1, hW1⟩ : ∃ W1, (w.alloc (.deferred (some []))).alloc (.loop (rec .ready none)) = W1 := ⟨_, rfl⟩
  have hsz1 : W1.heap.size = D + 2 := by rw [← hW1]; simp; omega
  -- the blocks of the book-keeping beside those of the iterator's
  let R2 : Blocks → Blocks := fun R k => R k ∨ (k = D ∨ k = D + 1)
  have st0 : Step (fun _ => False) (R2 fun _ => False) w W1 := by
    rw [← hW1]
    refine ⟨(Kept.alloc _ _ _).trans (Kept.alloc _ _ _), fun _ h => h.elim, fun k h => ?_⟩
    rcases h with h | h | h
    · exact h.elim
    · exact .inr (by omega)
    · exact .inr (by omega)
  have hL1 : W1.heap[D + 1]? = some (.loop (rec .ready none)) := by
    rw [← hW1]; have := World.alloc_heap_new (w.alloc (.deferred (some []))) (.loop (rec .ready none)); rw [World.size_alloc, ← hD] at this; exact this
  have hK1 : W1.heap[D]? = some (.deferred (some [])) := by
    rw [← hW1, hD]; exact (Below.heap_alloc _ _ _ (by simp)).trans (World.alloc_heap_new w _)
  have hkT : Kept T w W1 := by rw [← hW1]; exact (Kept.alloc _ _ _).trans (Kept.alloc _ _ _)
  have step2 : ∀ {R R' : Blocks} {X Y : World}, Step R R' X Y → Step (R2 R) (R2 R') X Y := fun st =>
    ⟨st.kept.less fun k hk _ h => hk (.inl h), fun k h => h.elim (fun h => .inl (st.sub k h)) .inr, fun k h => h.elim (fun h => (st.new k h).elim (fun h => .inl (.inl h)) .inr) (fun h => .inl (.inr h))⟩
  refine ⟨D + 1, [{ target := .collected D, args := #[] }], W1, { target := .fn (.func gf) lb, args := #[.func (.yield (D + 1)) #[] #[]] }, W1, gf,
    #[.func (.yield (D + 1)) #[] #[]] ++ lb, W1, ?_, ?_, ?_, ?_, fun _ => h1, ?_⟩
  · rw [← hW1, hrec, hD]; exact run_enterLoop_outer _ _ _ _ _
  · simp only [resolve, hg]
    simp [go_sem]
  · intro f' hf'; simp [Target.leads] at hf'; subst hf'; exact hFg
  · simp [invoke, go_sem, eg]
  · refine (hseq (D + 1)
      (fun R pre W => I (R2 R) pre W ∧ (W.heap[D + 1]? = some (.loop (rec .ready none)) ∧ ¬ R (D + 1)) ∧ (W.heap[D]? = some (.deferred (some [])) ∧ ¬ R D))
      (fun R pre W => ∃ c, Ix c (R2 R) pre W ∧ (W.heap[D + 1]? = some (.loop (rec .done (some c))) ∧ ¬ R (D + 1)) ∧ (W.heap[D]? = some (.deferred (some [])) ∧ ¬ R D))
      W1 hkT
      (fun R R' s X Y hs st => ⟨hI _ _ _ _ _ hs.1 (step2 st), step_obj st hs.2.1.1 hs.2.1.2, step_obj st hs.2.2.1 hs.2.2.2⟩)
      (fun R R' s X Y ⟨c, hs⟩ st => ⟨c, hIx c _ _ _ _ _ hs.1 (step2 st), step_obj st hs.2.1.1 hs.2.1.2, step_obj st hs.2.2.1 hs.2.2.2⟩)
      ?_ ⟨hI _ _ _ _ _ h0 st0, ⟨hL1, fun h => h⟩, ⟨hK1, fun h => h⟩⟩).mono ?_
    · -- one round
      rintro R pre x W ⟨hi, ⟨hl, hnl⟩, ⟨hk, hnk⟩⟩ hbd hsp
      have hlt : D + 1 < W.heap.size := (Array.getElem?_eq_some_iff.1 hl).1
      have hbd2 : ∀ (X : World), W.heap.size ≤ X.heap.size → ∀ k, R2 R k → w.heap.size ≤ k ∧ k < X.heap.size := fun X hX k h => by
        rcases h with h | h | h
        · have := hbd k h; omega
        · omega
        · omega
      have hy := run_yield (P := P) (args := encs x) hl (by rw [hrec]; exact hps x)
      rw [hrec] at hy
      refine ⟨fn, _, assign, body, hy, roundIn_of_wpIn hfn ?_⟩
      clear hy
      refine wpIn_mono (hassign (D + 1) (R2 R) pre x W (hbd2 W (Nat.le_refl _)) hsp hi) ?_
      rintro e a' Wa hpost
      cases e with
      | normal =>
        obtain ⟨hka, hia⟩ := hpost
        have hla : Wa.heap[D + 1]? = some (.loop (rec .ready none)) := (hka.block (D + 1) (.inl (.inr (.inr rfl))) hlt).trans hl
        have hka2 : Wa.heap[D]? = some (.deferred (some [])) := (hka.block D (.inl (.inr (.inl rfl))) (by omega)).trans hk
        have hlta : D + 1 < Wa.heap.size := (Array.getElem?_eq_some_iff.1 hla).1
        refine ⟨_, run_beginRound hla (by rw [hrec]), ?_⟩
        obtain ⟨Wb, hWb⟩ : ∃ Wb, Wa.putObj (D + 1) (.loop { rec .ready none with state := .busy }) = Wb := ⟨_, rfl⟩
        have hlb : Wb.heap[D + 1]? = some (.loop { rec .ready none with state := .busy }) := by rw [← hWb]; exact World.putObj_heap_same hlta
        have hkb : Wb.heap[D]? = some (.deferred (some [])) := by rw [← hWb]; exact (World.putObj_heap_other (by omega)).trans hka2
        have hszb : Wb.heap.size = Wa.heap.size := by rw [← hWb]; simp
        have keptb : ∀ T' : Blocks, ¬ T' (D + 1) → Kept T' Wa Wb := fun T' h => by rw [← hWb]; exact Kept.putObj _ _ h
        have hib := hIa a' x _ _ _ _ _ hia (show Step (R2 R) (R2 R) Wa Wb by rw [← hWb]; exact Step.putObj (R := R2 R) Wa _ (.inr (.inr rfl)))
        have hbody' := hbody (D + 1) (R2 R) pre x a' Wb (.inr (.inr rfl)) ⟨_, hlb⟩ (hbd2 Wb (by rw [hszb]; exact hka.size)) hsp hib
        show Code.wpIn _ _ _ _ _ _ _
        rw [hWb]
        refine wpIn_mono hbody' ?_
        have hnT : ¬ (fun k => R k ∨ T k) (D + 1) := fun h => h.elim hnl (fun h => by have := hT _ h; omega)
        have fin : ∀ (jump : Option Code) (W3 : World), Kept (fun k => R2 R k ∨ T k) Wb W3 →
            (Instr.endRound (D + 1) jump).run P W3 = .ok (.bool jump.isNone) (W3.putObj (D + 1) (.loop (rec (if jump.isNone then .ready else .done) jump))) ∧
            (W3.putObj (D + 1) (.loop (rec (if jump.isNone then .ready else .done) jump))).heap[D + 1]? = some (.loop (rec (if jump.isNone then .ready else .done) jump)) ∧
            (W3.putObj (D + 1) (.loop (rec (if jump.isNone then .ready else .done) jump))).heap[D]? = some (.deferred (some [])) ∧
            Kept (fun k => R k ∨ T k) W (W3.putObj (D + 1) (.loop (rec (if jump.isNone then .ready else .done) jump))) := fun jump W3 hk3 => by
          have hl3 := (hk3.block (D + 1) (.inl (.inr (.inr rfl))) (by omega)).trans hlb
          have := run_endRound (P := P) jump hl3
          rw [hrec] at this
          refine ⟨by rw [hrec]; exact this, World.putObj_heap_same (Array.getElem?_eq_some_iff.1 hl3).1, (World.putObj_heap_other (by omega)).trans ((hk3.block D (.inl (.inr (.inl rfl))) (by omega)).trans hkb), ?_⟩
          refine ((hka.less ?_).trans (keptb _ hnT)).trans ((hk3.less ?_).trans (Kept.putObj _ _ hnT))
          · exact fun k h _ => h.elim (fun h => .inl (.inl h)) .inr
          · exact fun k h _ => h.elim (fun h => .inl (.inl h)) .inr
        rintro e a3 W3 hp
        cases e with
        | normal =>
          obtain ⟨hk3, hi3⟩ := hp
          obtain ⟨hr, hl4, hk4, hkk⟩ := fin none W3 hk3
          exact ⟨_, _, hr, .inl ⟨rfl, ⟨hI _ _ _ _ _ hi3 (Step.putObj _ _ (.inr (.inr rfl))), ⟨hl4, hnl⟩, ⟨hk4, hnk⟩⟩, hkk⟩⟩
        | ret =>
          obtain ⟨hk3, hi3⟩ := hp
          obtain ⟨hr, hl4, hk4, hkk⟩ := fin (some .ret) W3 hk3
          exact ⟨_, _, hr, .inr ⟨rfl, ⟨.ret, hIx _ _ _ _ _ _ hi3 (Step.putObj _ _ (.inr (.inr rfl))), ⟨hl4, hnl⟩, ⟨hk4, hnk⟩⟩, hkk⟩⟩
        | exit id =>
          obtain ⟨hk3, hi3⟩ := hp
          obtain ⟨hr, hl4, hk4, hkk⟩ := fin (some (.exit id)) W3 hk3
          exact ⟨_, _, hr, .inr ⟨rfl, ⟨.exit id, hIx _ _ _ _ _ _ hi3 (Step.putObj _ _ (.inr (.inr rfl))), ⟨hl4, hnl⟩, ⟨hk4, hnk⟩⟩, hkk⟩⟩
        | goto t =>
          obtain ⟨hk3, hi3⟩ := hp
          obtain ⟨hr, hl4, hk4, hkk⟩ := fin (some (.goto t)) W3 hk3
          exact ⟨_, _, hr, .inr ⟨rfl, ⟨.goto t, hIx _ _ _ _ _ _ hi3 (Step.putObj _ _ (.inr (.inr rfl))), ⟨hl4, hnl⟩, ⟨hk4, hnk⟩⟩, hkk⟩⟩
        | panic ch => exact hp.elim
        | outgrown => exact hp.elim
      | ret => exact hpost.elim
      | exit id => exact hpost.elim
      | goto t => exact hpost.elim
      | panic ch => exact hpost.elim
      | outgrown => exact hpost.elim
    · -- behind the iterator
      rintro e W2 ⟨⟨v, rfl⟩, (⟨xs, R, hS, hi, ⟨hl, hnl⟩, ⟨hk, hnk⟩⟩ | ⟨pre, R, hSp, c, hi, ⟨hl, hnl⟩, ⟨hk, hnk⟩⟩)⟩
      · exact ⟨none, _, by have := run_endLoop (P := P) hl (by rw [hrec]; simp); rw [hrec] at this; exact this,
          hdone D (R2 R) xs _ (by omega) (.inr (.inl rfl)) hS (hI _ _ _ _ _ hi (Step.putObj _ _ (.inr (.inr rfl)))) ((World.putObj_heap_other (by omega)).trans hk)⟩
      · exact ⟨some c, _, by have := run_endLoop (P := P) hl (by rw [hrec]; simp); rw [hrec] at this; exact this,
          hstop D (R2 R) c pre _ (by omega) (.inr (.inl rfl)) hSp (hIx c _ _ _ _ _ hi (Step.putObj _ _ (.inr (.inr rfl)))) ((World.putObj_heap_other (by omega)).trans hk)⟩

/-- what a function that has left several such loops owes at its return -/
abbrev mark (D : Nat) : Deferred := { target := .collected D, args := #[] }
theorem leaves_marks {fn : Func} {tmps : Array Value} {R : Ending → World → Prop} : ∀ (Ds : List Nat) (W : World), Ds.Nodup → (∀ D ∈ Ds, W.heap[D]? = some (.deferred (some []))) →
    (∀ W', Kept (fun k => k ∉ Ds) W W' → LeavesIn F n P fn tmps R [] .returning W') → LeavesInM F n P fn tmps R (Ds.map mark) .returning W
  | [], W, _, _, h => h W (Kept.refl _ _)
  | D :: Ds, W, hnd, hW, h => by
    have hnd' := List.nodup_cons.1 hnd
    refine ⟨by simp, .inl ⟨D, _, rfl, run_takeDeferred (hW D (List.mem_cons_self ..)), ?_⟩⟩
    refine leaves_marks Ds _ hnd'.2 (fun E hE => ?_) (fun W' hk => h W' ?_)
    · exact (World.putObj_heap_other (fun e => by subst e; exact hnd'.1 hE)).trans (hW E (List.mem_cons_of_mem _ hE))
    · exact (Kept.putObj W _ (fun hn => hn (List.mem_cons_self ..))).trans (hk.less fun k hk _ hm => hk (List.mem_cons_of_mem _ hm))

/-- a row that is owned, by cases -/
theorem row_cases {w : World} {base : Nat} {e : TypeId} {size : Nat} {v : Value} {m : Nat} {xs : List Value} (h : w.ownsRow base e size v m xs) :
    ∃ ao cap, v = .slice ao m cap ∧ (0 < m → ∃ g, ao = some ⟨g, 0, none⟩ ∧ base ≤ g ∧ g < w.heap.size) := by
  rcases h.2 with ⟨rfl, rfl⟩ | ⟨g, cap, cur, rfl, h2, h3, _⟩
  · exact ⟨none, 0, rfl, fun h => by omega⟩
  · exact ⟨_, cap, rfl, fun _ => ⟨g, rfl, h2, (Array.getElem?_eq_some_iff.1 h3).1⟩⟩
theorem row_kept {T : Blocks} {w w' : World} {base : Nat} {e : TypeId} {size : Nat} {v : Value} {m : Nat} {xs : List Value} (h : w.ownsRow base e size v m xs) (hk : Kept T w w') (hT : ∀ g, v.ownBlock = some g → T g) :
    w'.ownsRow base e size v m xs := by
  rcases h with ⟨h0, h1 | ⟨g, cap, cur, h1, h2, h3, h4⟩⟩
  · exact ⟨h0, .inl h1⟩
  · exact ⟨h0, .inr ⟨g, cap, cur, h1, h2, (hk.block g (hT g (by rw [h1]; rfl)) (Array.getElem?_eq_some_iff.1 h3).1).trans h3, h4⟩⟩
end Sq
end Go.Proofs.Ytiijkneomecmiaa

/-
  An object in a block of its own: its cells, a store into one, and what keeps it.
-/
namespace Go.Proofs.Ytiijkneomecmiaa
open Go.RowKit
set_option linter.unusedVariables false
namespace Ob

/-- block b is an object of type t whose cells are cs -/
def Obj (W : World) (b : Nat) (t : TypeId) (cs : List Value) : Prop := W.heap[b]? = some (.cells cs.toArray t (0, 0))

theorem Obj.lt {W : World} {b : Nat} {t : TypeId} {cs : List Value} (h : Obj W b t cs) : b < W.heap.size := (Array.getElem?_eq_some_iff.1 h).1
theorem Obj.cell {W : World} {b : Nat} {t : TypeId} {cs : List Value} (h : Obj W b t cs) (j : Nat) : W.cell? ⟨b, j, none⟩ = cs[j]? := by simp [World.cell?, show W.heap[b]? = _ from h]
theorem Obj.frozen {W : World} {b : Nat} {t : TypeId} {cs : List Value} (h : Obj W b t cs) (j : Nat) : W.frozen? ⟨b, j, none⟩ = false := by simp [World.frozen?, show W.heap[b]? = _ from h]
theorem Obj.new (W : World) (t : TypeId) (cs : List Value) : Obj (W.alloc (.cells cs.toArray t)) W.heap.size t cs := World.alloc_heap_new W _
theorem Obj.alloc {W : World} {b : Nat} {t : TypeId} {cs : List Value} (h : Obj W b t cs) (o : Go.Obj) : Obj (W.alloc o) b t cs := (Below.heap_alloc W o b h.lt).trans h
theorem Obj.set {W : World} {b : Nat} {t : TypeId} {cs : List Value} (h : Obj W b t cs) (j : Nat) (v : Value) : Obj (W.setCell ⟨b, j, none⟩ v) b t (cs.set j v) := by
  obtain ⟨hlt, hk⟩ := Array.getElem?_eq_some_iff.1 h
  show (W.heap.modify b _)[b]? = _
  rw [Array.getElem?_eq_getElem (by rw [Array.size_modify]; exact hlt), Array.getElem_modify_self, hk]
  simp
theorem Obj.other {W : World} {b : Nat} {t : TypeId} {cs : List Value} (h : Obj W b t cs) {p : Addr} (hp : b ≠ p.block) (v : Value) : Obj (W.setCell p v) b t cs := (Below.heap_setCell W p v b hp).trans h
theorem Obj.kept {T : Sq.Blocks} {W W' : World} {b : Nat} {t : TypeId} {cs : List Value} (h : Obj W b t cs) (hk : Sq.Kept T W W') (hT : T b) : Obj W' b t cs := (hk.block b hT h.lt).trans h
theorem Obj.below {W W' : World} {b : Nat} {t : TypeId} {cs : List Value} (h : Obj W b t cs) (hk : Below W.heap.size W W') : Obj W' b t cs := (hk.block b h.lt).trans h
theorem Obj.grown {W W' : World} {row : Option Nat} {b : Nat} {t : TypeId} {cs : List Value} (h : Obj W b t cs) (hg : W.grownBy W' row) (hr : row ≠ some b) : Obj W' b t cs := (hg.block b h.lt (Ne.symm hr)).trans h
theorem Obj.drew {W : World} {b : Nat} {t : TypeId} {cs : List Value} (h : Obj W b t cs) : Obj W.drew b t cs := h
/-- an object is no row of another type -/
theorem Obj.not_row {W : World} {b : Nat} {t e : TypeId} {cs : List Value} (h : Obj W b t cs) (hte : t ≠ e) {base size m : Nat} {v : Value} {xs : List Value} (hr : W.ownsRow base e size v m xs) : v.ownBlock ≠ some b := by
  rcases hr.2 with ⟨rfl, _⟩ | ⟨g, cap, cur, rfl, _, hgb, _⟩
  · simp [Value.ownBlock]
  · intro e'
    obtain rfl : g = b := by simpa [Value.ownBlock] using e'
    have := (show W.heap[g]? = _ from h).symm.trans hgb
    simp at this
    exact hte this.2
/-- two rows of different types are not one -/
theorem rows_apart {W : World} {b1 b2 : Nat} {t e : TypeId} {n1 n2 m1 m2 : Nat} {u v : Value} {xs ys : List Value} (h1 : W.ownsRow b1 t n1 u m1 xs) (h2 : W.ownsRow b2 e n2 v m2 ys) (hte : t ≠ e) : ∀ g, u.ownBlock = some g → v.ownBlock ≠ some g := by
  intro g hu hv
  rcases h1.2 with ⟨rfl, _⟩ | ⟨g1, cap1, cur1, rfl, _, hg1, _⟩
  · simp [Value.ownBlock] at hu
  · rcases h2.2 with ⟨rfl, _⟩ | ⟨g2, cap2, cur2, rfl, _, hg2, _⟩
    · simp [Value.ownBlock] at hv
    · obtain rfl : g1 = g := by simpa [Value.ownBlock] using hu
      obtain rfl : g2 = g1 := by simpa [Value.ownBlock] using hv
      rw [hg1] at hg2
      simp at hg2
      exact hte hg2.2
/-- a row lies on while another block is written -/
theorem row_other {W : World} {base size m : Nat} {e : TypeId} {v : Value} {xs : List Value} (h : W.ownsRow base e size v m xs) {p : Addr} (hp : v.ownBlock ≠ some p.block) (u : Value) : (W.setCell p u).ownsRow base e size v m xs := by
  rcases h with ⟨h0, h1 | ⟨g, cap, cur, h1, h2, h3, h4⟩⟩
  · exact ⟨h0, .inl h1⟩
  · exact ⟨h0, .inr ⟨g, cap, cur, h1, h2, (Below.heap_setCell W p u g (fun e => hp (by rw [h1, ← e]; rfl))).trans h3, h4⟩⟩
theorem row_lt {W : World} {base size m : Nat} {e : TypeId} {v : Value} {xs : List Value} (h : W.ownsRow base e size v m xs) {g : Nat} (hg : v.ownBlock = some g) : base ≤ g ∧ g < W.heap.size := by
  rcases h.2 with ⟨h1, _⟩ | ⟨g', cap', cur, h1, h2, h3, _⟩
  · rw [h1] at hg; simp [Value.ownBlock] at hg
  · rw [h1] at hg
    obtain rfl : g' = g := by simpa [Value.ownBlock] using hg
    exact ⟨h2, (Array.getElem?_eq_some_iff.1 h3).1⟩
end Ob
end Go.Proofs.Ytiijkneomecmiaa

namespace Go.Proofs.Ytiijkneomecmiaa
open Go.RowKit
set_option linter.unusedSimpArgs false
set_option linter.unusedVariables false


theorem putUr_at (N : Int) (n : Nat) (w : World) (h : N = n) (h1 : n < 18446744073709551616) :
    Calls Try.prog 37 #[.int .u64 N] w fun e w' => e = .returned (.string (Cd.bs (Cd.putU n))) ∧ Below w.heap.size w w' := by
  have := putUr_any N w (by omega) (by omega)
  rwa [show N.toNat = n from by omega] at this

theorem putUc_at (N : Int) (n : Nat) (w : World) (h : N = n) (h1 : n < 18446744073709551616) :
    Calls Try.prog 47 #[.int .u64 N] w fun e w' => e = .returned (.string (Cd.bs (Cd.putU n))) ∧ Below w.heap.size w w' := by
  have := putUc_any N w (by omega) (by omega)
  rwa [show N.toNat = n from by omega] at this

set_option maxRecDepth 100000 in
set_option maxHeartbeats 1000000 in
theorem putTr_any (s : ByteArray) (w : World) (hs : s.size ≤ 140737488351232) :
    Calls Try.prog 39 #[.string s] w fun e w' => e = .returned (.string (Cd.bs (Cd.putT s.data.toList))) ∧ Below w.heap.size w w' := by
  have hb := fun W => putUr_any (s.size : Int) W (by omega) (by omega)
  rw [Int.toNat_natCast] at hb
  have HB := Lib.hid hb
  clear hb
  have hl := Cd.putU_len10 s.size (by omega)
  have hw : IntKind.u64.wrap (s.size : Int) = s.size := Cd.wrapU_nat (by omega)
  have HE := Lib.hid (show Cd.bs (Cd.putU s.size) ++ s = Cd.bs (Cd.putT s.data.toList) by
    have := Lib.mk_data s
    rw [Cd.putT, ← Lib.size_eq]
    conv => lhs; rw [← this]
    exact ByteArray.mk_append_mk _ _)
  go_enter Try.func39, Try.ntmps39
  go_wp2_with (go_at_call 37; refine (HB.out _).mono ?_; rintro e w1 ⟨rfl, hb1⟩)
  go_ret
  exact ⟨by rw [← HE.out]; rfl, hb1⟩

set_option maxRecDepth 100000 in
set_option maxHeartbeats 1000000 in
theorem keyTr_any (s : ByteArray) (w : World) (hs : s.size ≤ 70368744175616) :
    Calls Try.prog 24 #[.string s] w fun e w' => e = .returned (.string (Cd.bs (Cd.keyT s.data.toList))) ∧ Below w.heap.size w w' := by
  obtain ⟨i0, hi, hz0, hz1, hz2⟩ := info_parts info_u8
  go_enter Try.func24, Try.ntmps24
  go_wp2_with fail
  go_loopw [3, 4] (fun v i wr => ∃ (k : Nat) (acc : List UInt8), k ≤ s.size ∧ i = .int .i64 k ∧ acc.length ≤ 2 * k ∧ wr.ownsRow w.heap.size 5 1 v acc.length (Cd.cs acc) ∧ Below w.heap.size w wr ∧ Cd.keyGo s.data.toList = acc ++ Cd.keyGo (s.data.toList.drop k)) (fun _ i _ => s.size - (intOf i).toNat)
  case atStart => exact ⟨0, [], Nat.zero_le _, rfl, Nat.zero_le _, World.ownsRow_nil _ _ _ _, Below.refl _ _, rfl⟩
  case round =>
    obtain ⟨k, acc, hk, rfl, hal, hown, hb, hgo⟩ := hrel
    have HG := Lib.hid hgo
    clear hgo
    have hbs := hb.size
    by_cases hlt : k < s.size
    · have HD := Lib.hid (Cd.drop_cons_b s k hlt)
      by_cases hc : s[k].toNat = 0
      · have hcb : ((s[k].toNat : Int) == 0) = true := by simp [hc]
        have HC := Lib.hid hc
        clear hc
        go_wp2_with (first
          | (at_builtin; have _t := hbs; refine wpList_append_own _ rfl (.tmp 11) (.tmp 15) 48 rfl w.heap.size 5 i0 (.int .u8 0) 1 1 Try.underlying48 hi hz0 hz1 hz2 rfl (by decide) _ _ _ rfl (hown.alloc _) ⟨wr.heap.size, 0, none⟩ 1 1 [_] rfl rfl (cell_one_new _ _ _) (by simp [Value.oneCell']) (by unfold maxLen; omega) (by omega) (by simp; omega) ?_; intro v1 w1 hown1 hgrow _; have hb1 := (hb.alloc hbs (.cells #[_] 5)).grown hgrow (by simp; omega) (fun j hj => (hown.lt j hj).1); clear hgrow; have hs1 := hb1.size; have own1 := Cd.own_snoc (c := s[k]) rfl rfl hown1; clear hown1)
          | (at_builtin; refine wpList_append_own _ rfl (.tmp 21) (.tmp 22) 48 rfl w.heap.size 5 i0 (.int .u8 0) 1 1 Try.underlying48 hi hz0 hz1 hz2 rfl (by decide) _ _ _ rfl (own1.alloc _) ⟨w1.heap.size, 0, none⟩ 1 1 [_] rfl rfl (cell_one_new _ _ _) (by simp [Value.oneCell']) (by simp; unfold maxLen; omega) (by simp; omega) (by simp; omega) ?_; intro v2 w2 hown2 hgrow _; have hb2 := (hb1.alloc hs1 (.cells #[_] 5)).grown hgrow (by simp; omega) (fun j hj => (own1.lt j hj).1); clear hgrow; have own2 := Cd.own_snoc (c := 255) rfl (by simp) hown2; clear hown2))
        go_roundw
        case rel => exact ⟨k + 1, acc ++ [s[k]] ++ [255], by omega, by go_num, by simp; omega, own2, hb2, by rw [HG.out, HD.out, Cd.key_zero HC.out]; simp⟩
        case measure => simp [intOf]; omega
      · have hcb : ((s[k].toNat : Int) == 0) = false := by simp; omega
        have HC := Lib.hid hc
        clear hc
        go_wp2_with (at_builtin; refine wpList_append_own _ rfl _ _ 48 rfl w.heap.size 5 i0 (.int .u8 0) 1 1 Try.underlying48 hi hz0 hz1 hz2 rfl (by decide) _ _ _ rfl (hown.alloc _) ⟨wr.heap.size, 0, none⟩ 1 1 [_] rfl rfl (cell_one_new _ _ _) (by simp [Value.oneCell']) (by unfold maxLen; omega) (by omega) (by simp; omega) ?_; intro v1 w1 hown1 hgrow _; have hb1 := (hb.alloc hbs (.cells #[_] 5)).grown hgrow (by simp; omega) (fun j hj => (hown.lt j hj).1); clear hgrow; have own1 := Cd.own_snoc (c := s[k]) rfl rfl hown1; clear hown1)
        go_roundw
        case rel => exact ⟨k + 1, acc ++ [s[k]], by omega, by go_num, by simp; omega, own1, hb1, by rw [HG.out, HD.out, Cd.key_plain HC.out]; simp⟩
        case measure => simp [intOf]; omega
    · have HE := Lib.hid (Cd.drop_all (s := s) (k := k) (by omega))
      go_wp2_with (at_builtin; refine wpList_append_own _ rfl _ _ 48 rfl w.heap.size 5 i0 (.int .u8 0) 1 1 Try.underlying48 hi hz0 hz1 hz2 rfl (by decide) _ _ _ rfl (hown.alloc _) ⟨wr.heap.size, 0, none⟩ 2 2 [_, _] rfl rfl (cell_two_new _ _ _ _) (by simp [Value.oneCell']) (by unfold maxLen; omega) (by omega) (by simp; omega) ?_; intro v1 w1 hown1 hgrow _; have hb1 := (hb.alloc hbs (.cells #[_, _] 5)).grown hgrow (by simp; omega) (fun j hj => (hown.lt j hj).1); clear hgrow; have hcv := conv_any (Cd.own_app (l' := [0, 1]) rfl rfl hown1))
      go_ret
      exact ⟨by rw [Cd.keyT, HG.out, HE.out]; simp [Cd.keyGo], hb1⟩
end Go.Proofs.Ytiijkneomecmiaa

/-
  The document's answers on roots (tapestryref04): Name, Takes, May.
-/
namespace Go.Proofs.Ytiijkneomecmiaa
open Go.RowKit
set_option linter.unusedSimpArgs false
set_option linter.unusedVariables false

namespace Fi
open Op (bytesLess)
def inI64 (n : Int) : Prop := -9223372036854775808 ≤ n ∧ n ≤ 9223372036854775807
/-- a slice of numbers, in blocks below B -/
def Ints (B : Nat) (W : World) (v : Value) (l : List Int) : Prop :=
  ∃ (a : Option Addr) (cap b off : Nat), v = .slice a l.length cap ∧ (0 < l.length → a = some ⟨b, off, none⟩ ∧ b < B) ∧ ∀ j (h : j < l.length), W.cell? ⟨b, off + j, none⟩ = some (.int .i64 l[j])
theorem Ints.below {B : Nat} {W W' : World} {v : Value} {l : List Int} (h : Ints B W v l) (hb : Below B W W') : Ints B W' v l := by
  obtain ⟨a, cap, b, off, h1, h2, h3⟩ := h
  exact ⟨a, cap, b, off, h1, h2, fun j hj => (hb.cell (p := ⟨b, off + j, none⟩) (h2 (by omega)).2).trans (h3 j hj)⟩
/-- a slice of files, with the values of their lists of blocks -/
def Files (B : Nat) (W : World) (v : Value) (L : List (File × Value)) : Prop :=
  ∃ (a : Option Addr) (cap b off : Nat), v = .slice a L.length cap ∧ (0 < L.length → a = some ⟨b, off, none⟩ ∧ b < B) ∧ ∀ j (h : j < L.length),
    W.cell? ⟨b, off + j * 3, none⟩ = some (.string (Cd.bs L[j].1.name)) ∧ W.cell? ⟨b, off + j * 3 + 1, none⟩ = some (.int .i64 L[j].1.size) ∧ W.cell? ⟨b, off + j * 3 + 2, none⟩ = some L[j].2 ∧ Ints B W L[j].2 L[j].1.blocks
theorem Files.below {B : Nat} {W W' : World} {v : Value} {L : List (File × Value)} (h : Files B W v L) (hb : Below B W W') : Files B W' v L := by
  obtain ⟨a, cap, b, off, h1, h2, h3⟩ := h
  refine ⟨a, cap, b, off, h1, h2, fun j hj => ?_⟩
  have hl := (h2 (by omega)).2
  obtain ⟨g1, g2, g3, g4⟩ := h3 j hj
  exact ⟨(hb.cell (p := ⟨b, off + j * 3, none⟩) hl).trans g1, (hb.cell (p := ⟨b, off + j * 3 + 1, none⟩) hl).trans g2, (hb.cell (p := ⟨b, off + j * 3 + 2, none⟩) hl).trans g3, g4.below hb⟩
/-- bounds of what came in -/
structure FileIn (f : File) : Prop where
  name : f.name.length ≤ 1048576
  size : inI64 f.size
  many : f.blocks.length ≤ 1048576
  blocks : ∀ b ∈ f.blocks, inI64 b

theorem bl_total : ∀ p n : Dat, bytesLess p n = !(bytesLess n p || n == p)
  | [], [] => by simp [bytesLess]
  | [], b :: y => by simp [bytesLess]
  | a :: x, [] => by simp [bytesLess]
  | a :: x, b :: y => by
    have ih := bl_total x y
    have e1 : (a < b) ↔ a.toNat < b.toNat := UInt8.lt_iff_toNat_lt
    have e2 : (b < a) ↔ b.toNat < a.toNat := UInt8.lt_iff_toNat_lt
    have e3 : (a = b) ↔ a.toNat = b.toNat := UInt8.toNat_inj.symm
    have e4 : (b = a) ↔ b.toNat = a.toNat := UInt8.toNat_inj.symm
    rw [Cd.bl_cons, Cd.bl_cons, ih]
    have e5 : ((b :: y : Dat) == a :: x) = (decide (a.toNat = b.toNat) && (y == x)) := by
      rw [Bool.eq_iff_iff]; simp [e4]; intro _; omega
    rw [e5]
    by_cases h1 : a.toNat < b.toNat
    · have h2 : ¬ b.toNat < a.toNat := by omega
      have h3 : ¬ a.toNat = b.toNat := by omega
      have h4 : ¬ b.toNat = a.toNat := by omega
      simp [h1, h2, h3, h4]
    · by_cases h3 : a.toNat = b.toNat
      · simp [h3]
      · have h2 : b.toNat < a.toNat := by omega
        simp [h1, h2, h3]

/-- which blocks are taken, as a row -/
def marks (N : Nat) (t : List Int) : List Value := (List.range N).map fun (i : Nat) => Value.bool (decide ((i : Int) ∈ t))
theorem marks_none (N : Nat) : marks N [] = List.replicate N (.bool false) := by
  unfold marks; apply List.ext_getElem <;> simp
theorem marks_get (N : Nat) (t : List Int) (i : Nat) (h : i < N) : (marks N t)[i]? = some (.bool (decide ((i : Int) ∈ t))) := by simp [marks, h]
theorem marks_set (N : Nat) (t : List Int) (i : Nat) : (marks N t).set i (.bool true) = marks N ((i : Int) :: t) := by
  apply List.ext_getElem?
  intro j
  by_cases hj : j < N
  · rw [List.getElem?_set, marks_get N t j hj, marks_get N _ j hj]
    by_cases hij : i = j
    · subst hij; simp [marks, hj]
    · rw [if_neg hij]
      have : ¬ (j : Int) = (i : Int) := by omega
      simp [this]
  · rw [List.getElem?_eq_none (by simp [marks]; omega), List.getElem?_eq_none (by simp [marks]; omega)]
def prevOf (L : List File) : Nat → Option Dat
  | 0 => none
  | k + 1 => (L[k]?).map (·.name)
theorem takes_in {n : Int} (h0 : 0 ≤ n) : takes n = n / 256 + if 0 < n % 256 then 1 else 0 := rfl
end Fi

theorem belowN {B : Nat} {a w : World} (h : Below B a w) (n : Nat) : Below B a (w.drewN n) := ⟨h.os, h.tape, h.output, h.size, h.block⟩

end Go.Proofs.Ytiijkneomecmiaa

/-
  P6.1, P6.2: the order of versions, towers' heights: plain, the document's answers (tapestryref06), the law MemtableOrder over what the program owes.
-/
namespace Go.Proofs.Ytiijkneomecmiaa
open Go.RowKit
set_option linter.unusedSimpArgs false
set_option linter.unusedVariables false
namespace Mt
open Op (bytesLess)
/-- a version: its key, its sequence number, whether it takes away, its value -/
structure Ver where
  key : List UInt8
  seq : Int
  del : Bool
  val : List UInt8
def lessB (a b : Ver) : Bool := if a.key = b.key then decide (b.seq < a.seq) else bytesLess a.key b.key
def placeB (a b : Ver) : Bool := decide (a.key = b.key ∧ a.seq = b.seq)
theorem less_total (a b : Ver) : (lessB a b && lessB b a) = false ∧ (lessB a b || lessB b a) = !placeB a b := by
  unfold lessB placeB
  by_cases h : a.key = b.key
  · rw [if_pos h, if_pos h.symm]
    by_cases h1 : a.seq < b.seq
    · have h2 : ¬ b.seq < a.seq := by omega
      have h3 : ¬ a.seq = b.seq := by omega
      simp [h, h1, h2, h3]
    · by_cases h2 : b.seq < a.seq
      · have h3 : ¬ a.seq = b.seq := by omega
        simp [h, h1, h2, h3]
      · have h3 : a.seq = b.seq := by omega
        simp [h, h3]
  · rw [if_neg h, if_neg (fun e => h e.symm)]
    have ht := Fi.bl_total a.key b.key
    have hne : (b.key == a.key) = false := by simpa using fun e => h e.symm
    rw [hne, Bool.or_false] at ht
    rw [ht]
    have : decide (a.key = b.key ∧ a.seq = b.seq) = false := by simp [h]
    rw [this]
    cases bytesLess b.key a.key <;> simp
/-- P6.2 -/
def hgtGo : Nat → Nat → Int → Nat
  | 0, n, _ => n
  | f + 1, n, x => if n < 8 ∧ x % 4 = 0 then hgtGo f (n + 1) (x / 4) else n
def seedOf (seed seq : Int) : Int := mixOf (bits BinOp.xor IntKind.u64 seed (mixOf seq))
def height (seed seq : Int) : Nat := hgtGo 7 1 (seedOf seed seq)
def VerIn (a : Ver) : Prop := a.key.length ≤ 1048576 ∧ a.val.length ≤ 1048576 ∧ 0 ≤ a.seq ∧ a.seq < 18446744073709551616
/-- however long -/
def VerW (a : Ver) : Prop := a.key.length ≤ 140737488351232 ∧ a.val.length ≤ 140737488351232 ∧ 0 ≤ a.seq ∧ a.seq < 18446744073709551616
theorem VerIn.wide {a : Ver} (h : VerIn a) : VerW a := ⟨Nat.le_trans h.1 (by omega), Nat.le_trans h.2.1 (by omega), h.2.2.1, h.2.2.2⟩
def verV (a : Ver) : Value := .agg #[.string (Cd.bs a.key), .int .u64 a.seq, .bool a.del, .string (Cd.bs a.val)]

set_option maxRecDepth 100000 in
set_option maxHeartbeats 2000000 in
theorem lessR_any (a b : Ver) (w : World) (ha : VerW a) (hb : VerW b) :
    Calls Try.prog 10 #[verV a, verV b] w fun e w' => e = .returned (.bool (lessB a b)) ∧ Below w.heap.size w w' := by
  obtain ⟨ak, aq, ad, av⟩ := a
  obtain ⟨bk, bq, bd, bv⟩ := b
  unfold verV
  simp only
  obtain ⟨_, _, _, _⟩ := ha
  obtain ⟨_, _, _, _⟩ := hb
  by_cases h : ak = bk
  · subst h
    by_cases h1 : bq < aq
    · have e : lessB ⟨ak, aq, ad, av⟩ ⟨ak, bq, bd, bv⟩ = true := by simp [lessB, h1]
      rw [e]
      clear e
      go_enter Try.func10, Try.ntmps10
      go_wp2_with fail
      go_ret
      exact ⟨rfl, ((Below.refl _ _).alloc (Nat.le_refl _) _).alloc (by simp) _⟩
    · have e : lessB ⟨ak, aq, ad, av⟩ ⟨ak, bq, bd, bv⟩ = false := by simp [lessB, h1]
      have h2 : decide (bq < aq) = false := decide_eq_false h1
      have H2 := Lib.hid h2
      rw [e]
      clear e
      go_enter Try.func10, Try.ntmps10
      go_wp2_with fail
      go_ret
      exact ⟨by rw [← H2.out]; first | rfl | (rw [H2.out]; rfl), ((Below.refl _ _).alloc (Nat.le_refl _) _).alloc (by simp) _⟩
  · have hne : (ak == bk) = false := by simpa using h
    have e : lessB ⟨ak, aq, ad, av⟩ ⟨bk, bq, bd, bv⟩ = bytesLess ak bk := by simp [lessB, h]
    rw [e]
    clear e h
    go_enter Try.func10, Try.ntmps10
    go_wp2_with fail
    go_ret
    exact ⟨rfl, ((Below.refl _ _).alloc (Nat.le_refl _) _).alloc (by simp) _⟩

theorem xor_in {a b : Int} (ha : 0 ≤ a ∧ a < 18446744073709551616) (hb : 0 ≤ b ∧ b < 18446744073709551616) : 0 ≤ bits BinOp.xor IntKind.u64 a b ∧ bits BinOp.xor IntKind.u64 a b < 18446744073709551616 := by
  obtain ⟨m, rfl⟩ := Int.eq_ofNat_of_zero_le ha.1
  obtain ⟨n, rfl⟩ := Int.eq_ofNat_of_zero_le hb.1
  rw [u64_xor_nat m n (by omega) (by omega)]
  have := Nat.xor_lt_two_pow (x := m) (y := n) (n := 64) (by omega) (by omega)
  omega
theorem mix_in (N : Int) : 0 ≤ mixOf N ∧ mixOf N < 18446744073709551616 := by
  unfold mixOf
  simp only
  have key : ∀ x : Int, 0 ≤ IntKind.u64.wrap x ∧ IntKind.u64.wrap x < 18446744073709551616 := fun x => by rw [IntKind.wrap_u64]; omega
  have h := key (bits BinOp.xor IntKind.u64 (IntKind.u64.wrap (bits BinOp.xor IntKind.u64 (IntKind.u64.wrap (N + 11400714819323198485)) (IntKind.u64.wrap (N + 11400714819323198485) / 1073741824) * 13787848793156543929)) (IntKind.u64.wrap (bits BinOp.xor IntKind.u64 (IntKind.u64.wrap (N + 11400714819323198485)) (IntKind.u64.wrap (N + 11400714819323198485) / 1073741824) * 13787848793156543929) / 134217728) * 10723151780598845931)
  exact xor_in h (by omega)

def LessOk : Prop := ∀ (a b : Ver) (w : World), VerW a → VerW b → Calls Try.prog 45 #[verV a, verV b] w fun e w' => e = .returned (.bool (lessB a b)) ∧ Below w.heap.size w w'

end Mt
end Go.Proofs.Ytiijkneomecmiaa
/-
  Plain mathematics of chapter 6: a table as a list of versions with their towers' heights; P6.8.
-/
namespace Go.Proofs.Ytiijkneomecmiaa
open Go.RowKit
set_option linter.unusedVariables false
set_option linter.unusedSimpArgs false
namespace Mt
open Op (bytesLess)
theorem bl_irrefl : ∀ a : List UInt8, bytesLess a a = false
  | [] => rfl
  | c :: r => by rw [Cd.bl_cons]; simp [bl_irrefl r]
theorem bl_trans : ∀ {a b c : List UInt8}, bytesLess a b = true → bytesLess b c = true → bytesLess a c = true
  | _, [], c, h, k => by rw [Cd.bl_nil_r] at h; cases h
  | _, _ :: _, [], h, k => by rw [Cd.bl_nil_r] at k; cases k
  | [], _ :: _, _ :: _, h, k => rfl
  | x :: p, y :: q, z :: r, h, k => by
    rw [Cd.bl_cons] at h k ⊢
    simp only [Bool.or_eq_true, Bool.and_eq_true, decide_eq_true_eq] at h k ⊢
    rcases h with h | ⟨h, h'⟩ <;> rcases k with k | ⟨k, k'⟩
    · exact .inl (by omega)
    · exact .inl (by omega)
    · exact .inl (by omega)
    · exact .inr ⟨by omega, bl_trans h' k'⟩
theorem less_irrefl (a : Ver) : lessB a a = false := by unfold lessB; simp
theorem less_trans {a b c : Ver} (h : lessB a b = true) (k : lessB b c = true) : lessB a c = true := by
  unfold lessB at *
  by_cases h1 : a.key = b.key
  · rw [if_pos h1] at h
    by_cases h2 : b.key = c.key
    · rw [if_pos h2] at k
      rw [if_pos (h1.trans h2)]
      simp at h k ⊢
      omega
    · rw [if_neg h2] at k
      rw [if_neg (fun e => h2 (h1.symm.trans e)), h1]
      exact k
  · rw [if_neg h1] at h
    by_cases h2 : b.key = c.key
    · rw [if_pos h2] at k
      rw [if_neg (fun e => h1 (e.trans h2.symm)), ← h2]
      exact h
    · rw [if_neg h2] at k
      have := bl_trans h k
      rw [if_neg (fun e => by rw [e, bl_irrefl] at this; cases this)]
      exact this
/-- a table: its versions in order, with heights -/
abbrev Tab := List (Ver × Nat)
def vers (t : Tab) : List Ver := t.map (·.1)
/-- P6.3's limits -/
def mayB (v : Ver) : Bool := decide (1 ≤ v.key.length) && decide (v.key.length ≤ 96) && decide (1 ≤ v.seq) && decide (v.seq ≤ 1125899906842624) && decide (v.val.length ≤ 16384) && (!v.del || decide (v.val = []))
def Ordered (t : Tab) : Prop := (vers t).Pairwise fun a b => lessB a b = true
/-- where a version goes -/
def spot (t : Tab) (v : Ver) : Nat := (t.takeWhile fun x => lessB x.1 v).length
def put (t : Tab) (v : Ver) (h : Nat) : Tab := t.take (spot t v) ++ (v, h) :: t.drop (spot t v)
def there (t : Tab) (v : Ver) : Bool := (vers t).any fun x => placeB x v
def newest (t : Tab) (key : List UInt8) (seq : Int) : Option Ver := (vers t).find? fun x => decide (x.key = key ∧ x.seq ≤ seq)
def from' (t : Tab) (key : List UInt8) : List Ver := (vers t).filter fun x => !bytesLess x.key key
def bytes (t : Tab) : Nat := ((vers t).map fun x => x.key.length + x.val.length + 16).sum
def level (t : Tab) (l : Int) : List Ver := (t.filter fun x => decide (0 ≤ l ∧ l < (x.2 : Int))).map (·.1)
theorem take_spot (t : Tab) (v : Ver) : t.take (spot t v) = t.takeWhile fun x => lessB x.1 v := by
  unfold spot
  induction t with
  | nil => rfl
  | cons x r ih =>
    cases h : lessB x.1 v with
    | true => rw [List.takeWhile_cons_of_pos (by simpa using h), List.length_cons, List.take_succ_cons, ih]
    | false => rw [List.takeWhile_cons_of_neg (by simp [h])]; rfl
theorem drop_spot (t : Tab) (v : Ver) : t.drop (spot t v) = t.dropWhile fun x => lessB x.1 v := by
  unfold spot
  induction t with
  | nil => rfl
  | cons x r ih =>
    cases h : lessB x.1 v with
    | true => rw [List.takeWhile_cons_of_pos (by simpa using h), List.dropWhile_cons_of_pos (by simpa using h), List.length_cons, List.drop_succ_cons, ih]
    | false => rw [List.takeWhile_cons_of_neg (by simp [h]), List.dropWhile_cons_of_neg (by simp [h])]; rfl
theorem mem_put (t : Tab) (v : Ver) (h : Nat) (x : Ver × Nat) : x ∈ put t v h ↔ x = (v, h) ∨ x ∈ t := by
  unfold put
  rw [List.mem_append, List.mem_cons]
  constructor
  · rintro (h1 | h1 | h1)
    · exact .inr (List.mem_of_mem_take h1)
    · exact .inl h1
    · exact .inr (List.mem_of_mem_drop h1)
  · rintro (h1 | h1)
    · exact .inr (.inl h1)
    · rw [← List.take_append_drop (spot t v) t, List.mem_append] at h1
      rcases h1 with h1 | h1
      · exact .inl h1
      · exact .inr (.inr h1)
/-- in order it stays -/
theorem put_ordered {t : Tab} (ht : Ordered t) (v : Ver) (h : Nat) (hn : there t v = false) : Ordered (put t v h) := by
  induction t with
  | nil => unfold put spot; simp [Ordered, vers]
  | cons x r ih =>
    unfold Ordered vers at ht
    rw [List.map_cons, List.pairwise_cons] at ht
    have hn2 : placeB x.1 v = false ∧ there r v = false := by
      unfold there vers at hn
      rw [List.map_cons, List.any_cons, Bool.or_eq_false_iff] at hn
      exact hn
    cases hx : lessB x.1 v with
    | true =>
      have e : put (x :: r) v h = x :: put r v h := by
        unfold put
        have : spot (x :: r) v = spot r v + 1 := by unfold spot; rw [List.takeWhile_cons_of_pos (by simpa using hx), List.length_cons]
        rw [this]; rfl
      rw [e]
      unfold Ordered vers
      rw [List.map_cons, List.pairwise_cons]
      refine ⟨fun y hy => ?_, ih ht.2 hn2.2⟩
      obtain ⟨z, hz, rfl⟩ := List.mem_map.1 hy
      rcases (mem_put r v h z).1 hz with rfl | hz
      · exact hx
      · exact ht.1 _ (List.mem_map_of_mem hz)
    | false =>
      have e : put (x :: r) v h = (v, h) :: x :: r := by
        unfold put
        have : spot (x :: r) v = 0 := by unfold spot; rw [List.takeWhile_cons_of_neg (by simp [hx])]; rfl
        rw [this]; rfl
      rw [e]
      have hvx : lessB v x.1 = true := by
        have := (less_total x.1 v).2
        rw [hx, hn2.1] at this
        simpa using this
      unfold Ordered vers
      rw [List.map_cons, List.pairwise_cons]
      refine ⟨fun y hy => ?_, by rw [List.map_cons, List.pairwise_cons]; exact ht⟩
      rw [List.map_cons] at hy
      rcases List.mem_cons.1 hy with rfl | hy
      · exact hvx
      · exact less_trans hvx (ht.1 y hy)
/-- P6.8: what stands in order is told by what stands -/
theorem ordered_unique : ∀ {a b : List Ver}, (a.Pairwise fun x y => lessB x y = true) → (b.Pairwise fun x y => lessB x y = true) → (∀ x, x ∈ a ↔ x ∈ b) → a = b
  | [], [], _, _, _ => rfl
  | [], y :: s, _, _, h => by have := (h y).2 (List.mem_cons_self ..); cases this
  | x :: r, [], _, _, h => by have := (h x).1 (List.mem_cons_self ..); cases this
  | x :: r, y :: s, ha, hb, h => by
    rw [List.pairwise_cons] at ha hb
    have hxy : x = y := by
      rcases List.mem_cons.1 ((h x).1 (List.mem_cons_self ..)) with e | e
      · exact e
      · rcases List.mem_cons.1 ((h y).2 (List.mem_cons_self ..)) with e' | e'
        · exact e'.symm
        · have := less_trans (hb.1 x e) (ha.1 y e')
          rw [less_irrefl] at this
          cases this
    subst hxy
    have : r = s := ordered_unique ha.2 hb.2 (fun z => by
      have hz := h z
      rw [List.mem_cons, List.mem_cons] at hz
      constructor
      · intro hm
        rcases hz.1 (.inr hm) with e | e
        · subst e; have := ha.1 z hm; rw [less_irrefl] at this; cases this
        · exact e
      · intro hm
        rcases hz.2 (.inr hm) with e | e
        · subst e; have := hb.1 z hm; rw [less_irrefl] at this; cases this
        · exact e)
    rw [this]
/-- heights play no part -/
theorem vers_put (t : Tab) (v : Ver) (h : Nat) : vers (put t v h) = (vers t).take (spot t v) ++ v :: (vers t).drop (spot t v) := by
  unfold put vers
  rw [List.map_append, List.map_cons, List.map_take, List.map_drop]
theorem there_of_same {a b : Tab} (h : vers a = vers b) (v : Ver) : there a v = there b v := by unfold there; rw [h]
theorem newest_of_same {a b : Tab} (h : vers a = vers b) (k : List UInt8) (s : Int) : newest a k s = newest b k s := by unfold newest; rw [h]
theorem from_of_same {a b : Tab} (h : vers a = vers b) (k : List UInt8) : from' a k = from' b k := by unfold from'; rw [h]
theorem bytes_of_same {a b : Tab} (h : vers a = vers b) : bytes a = bytes b := by unfold bytes; rw [h]
theorem mem_vers_put (t : Tab) (v : Ver) (h : Nat) (x : Ver) : x ∈ vers (put t v h) ↔ x = v ∨ x ∈ vers t := by
  unfold vers
  constructor
  · intro hx
    obtain ⟨y, hy, rfl⟩ := List.mem_map.1 hx
    rcases (mem_put t v h y).1 hy with rfl | hy
    · exact .inl rfl
    · exact .inr (List.mem_map_of_mem hy)
  · rintro (rfl | hx)
    · exact List.mem_map.2 ⟨(x, h), (mem_put t x h _).2 (.inl rfl), rfl⟩
    · obtain ⟨y, hy, rfl⟩ := List.mem_map.1 hx
      exact List.mem_map_of_mem ((mem_put t v h y).2 (.inr hy))
theorem there_put (t : Tab) (v : Ver) (h : Nat) (u : Ver) : there (put t v h) u = (placeB v u || there t u) := by
  unfold there
  rw [Bool.eq_iff_iff, Bool.or_eq_true, List.any_eq_true, List.any_eq_true]
  constructor
  · rintro ⟨x, hx, hp⟩
    rcases (mem_vers_put t v h x).1 hx with rfl | hx
    · exact .inl hp
    · exact .inr ⟨x, hx, hp⟩
  · rintro (hp | ⟨x, hx, hp⟩)
    · exact ⟨v, (mem_vers_put t v h v).2 (.inl rfl), hp⟩
    · exact ⟨x, (mem_vers_put t v h x).2 (.inr hx), hp⟩
theorem placeB_comm (a b : Ver) : placeB a b = placeB b a := by
  unfold placeB
  rw [Bool.eq_iff_iff, decide_eq_true_eq, decide_eq_true_eq]
  constructor <;> exact fun h => ⟨h.1.symm, h.2.symm⟩
/-- versions added one after another -/
def putAll (t : Tab) (P : List (Ver × Nat)) : Tab := P.foldl (fun t p => put t p.1 p.2) t
/-- no two of one place, and none of a place that is taken -/
def Fresh (t : Tab) (P : List (Ver × Nat)) : Prop := (P.Pairwise fun a b => placeB a.1 b.1 = false) ∧ ∀ p ∈ P, there t p.1 = false
theorem Fresh.tail {t : Tab} {p : Ver × Nat} {P : List (Ver × Nat)} (h : Fresh t (p :: P)) : Fresh (put t p.1 p.2) P := by
  obtain ⟨h1, h2⟩ := h
  rw [List.pairwise_cons] at h1
  exact ⟨h1.2, fun q hq => by rw [there_put, h1.1 q hq, h2 q (List.mem_cons_of_mem _ hq)]; rfl⟩
theorem putAll_ordered : ∀ (P : List (Ver × Nat)) {t : Tab}, Ordered t → Fresh t P → Ordered (putAll t P)
  | [], _, ht, _ => ht
  | p :: P, t, ht, hf => putAll_ordered P (put_ordered ht p.1 p.2 (hf.2 p (List.mem_cons_self ..))) hf.tail
theorem mem_putAll : ∀ (P : List (Ver × Nat)) (t : Tab) (x : Ver), x ∈ vers (putAll t P) ↔ x ∈ vers t ∨ x ∈ P.map (·.1)
  | [], t, x => by simp [putAll]
  | p :: P, t, x => by
    have := mem_putAll P (put t p.1 p.2) x
    rw [show putAll t (p :: P) = putAll (put t p.1 p.2) P from rfl, this, mem_vers_put, List.map_cons, List.mem_cons]
    constructor
    · rintro ((h | h) | h)
      · exact .inr (.inl h)
      · exact .inl h
      · exact .inr (.inr h)
    · rintro (h | h | h)
      · exact .inl (.inr h)
      · exact .inl (.inl h)
      · exact .inr h
/-- P6.8: the same versions, in whatever order, with whatever towers -/
theorem putAll_same {P Q : List (Ver × Nat)} (hP : Fresh [] P) (hQ : Fresh [] Q) (h : ∀ x, x ∈ P.map (·.1) ↔ x ∈ Q.map (·.1)) : vers (putAll [] P) = vers (putAll [] Q) := by
  have ho : Ordered [] := List.Pairwise.nil
  refine ordered_unique (putAll_ordered P ho hP) (putAll_ordered Q ho hQ) fun x => ?_
  rw [mem_putAll, mem_putAll, h x]
theorem fresh_nil {P : List (Ver × Nat)} (h : P.Pairwise fun a b => placeB a.1 b.1 = false) : Fresh [] P := ⟨h, fun _ _ => rfl⟩
/-- the other way round, with other towers -/
def turned (P : List (Ver × Nat)) : List (Ver × Nat) := P.reverse.map fun p => (p.1, 9 - p.2)
theorem turned_fresh {P : List (Ver × Nat)} (h : Fresh [] P) : Fresh [] (turned P) := by
  refine fresh_nil ?_
  unfold turned
  rw [List.pairwise_map, List.pairwise_reverse]
  exact h.1.imp fun {a b} hab => by rw [placeB_comm]; exact hab
theorem turned_same {P : List (Ver × Nat)} (h : Fresh [] P) : vers (putAll [] P) = vers (putAll [] (turned P)) := by
  refine putAll_same h (turned_fresh h) fun x => ?_
  unfold turned
  rw [List.map_map]
  simp
theorem putAll_snoc (t : Tab) (P : List (Ver × Nat)) (p : Ver × Nat) : putAll t (P ++ [p]) = put (putAll t P) p.1 p.2 := by simp [putAll]
/-- what is added with leave stays fresh -/
theorem fresh_snoc {P : List (Ver × Nat)} {p : Ver × Nat} (h : Fresh [] P) (hn : there (putAll [] P) p.1 = false) : Fresh [] (P ++ [p]) := by
  refine fresh_nil ?_
  rw [List.pairwise_append]
  refine ⟨h.1, List.pairwise_singleton _ _, fun a ha b hb => ?_⟩
  rw [List.mem_singleton] at hb
  subst hb
  unfold there at hn
  rw [List.any_eq_false] at hn
  simpa using hn a.1 ((mem_putAll P [] a.1).2 (.inr (List.mem_map_of_mem ha)))
/-- of a fresh list each is free when its turn comes -/
theorem fresh_turn {P Q : List (Ver × Nat)} {p : Ver × Nat} (h : Fresh [] (P ++ p :: Q)) : there (putAll [] P) p.1 = false := by
  unfold there
  rw [List.any_eq_false]
  intro x hx
  rw [mem_putAll] at hx
  rcases hx with hx | hx
  · cases hx
  · obtain ⟨q, hq, rfl⟩ := List.mem_map.1 hx
    have := (List.pairwise_append.1 h.1).2.2 q hq p (List.mem_cons_self ..)
    simpa using this
theorem put_len (t : Tab) (v : Ver) (h : Nat) : (put t v h).length = t.length + 1 := by
  unfold put
  rw [List.length_append, List.length_cons, List.length_take, List.length_drop]
  have : spot t v ≤ t.length := by unfold spot; exact (List.takeWhile_sublist _).length_le
  omega
theorem putAll_len : ∀ (P : List (Ver × Nat)) (t : Tab), (putAll t P).length = t.length + P.length
  | [], t => rfl
  | p :: P, t => by rw [show putAll t (p :: P) = putAll (put t p.1 p.2) P from rfl, putAll_len P, put_len, List.length_cons]; omega
end Mt
end Go.Proofs.Ytiijkneomecmiaa

/-
  Plain mathematics of P1.8: what is written is read again; keys rise as what they are keys of.
-/
namespace Go.Proofs.Ytiijkneomecmiaa
namespace Cd
open Go.RowKit
open Op (bytesLess)

theorem chain {a b c : World} (h : Below a.heap.size a b) (k : Below b.heap.size b c) : Below a.heap.size a c := h.trans (k.mono h.size)

theorem ofNat_low {m : Nat} (h : m < 256) : (UInt8.ofNat m).toNat = m := by rw [UInt8.toNat_ofNat']; omega

theorem takeGo_putU (r : List UInt8) (m : Nat) : ∀ (i acc : Nat), i ≤ 9 → m * 128 ^ i < 18446744073709551616 → (0 < i → 1 ≤ m) →
    takeGo (putU m ++ r) i acc = (acc + m * 128 ^ i, i + (putU m).length, 0) := by
  induction m using Nat.strongRecOn with
  | ind m ih =>
    intro i acc hi hm h1
    have h9 : (128 : Nat) ^ 9 = 9223372036854775808 := by decide
    by_cases h : m < 128
    · rw [putU_last h, List.cons_append, List.nil_append]
      have e := ofNat_low (m := m) (by omega)
      rw [go_last (by
        rw [e]
        rintro (⟨rfl, h2⟩ | ⟨h2, h3⟩)
        · have : 2 * 128 ^ 9 ≤ m * 128 ^ 9 := Nat.mul_le_mul_right _ h2
          omega
        · have := h1 h2; omega) (by rw [e]; exact h), e, Nat.mod_eq_of_lt h]
      simp
    · have e := ofNat_low (m := m % 128 + 128) (by omega)
      have hi8 : i ≠ 9 := by
        rintro rfl
        have : 128 * 128 ^ 9 ≤ m * 128 ^ 9 := Nat.mul_le_mul_right _ (by omega)
        omega
      rw [putU_more (by omega), List.cons_append, go_more (by rw [e]; omega) (by rw [e]; omega), e]
      have hs := put_step (m := m) (k := i) (Nat.le_refl _)
      rw [ih (m / 128) (by omega) (i + 1) _ (by omega) (by omega) (by omega)]
      have e2 : (m % 128 + 128) % 128 = m % 128 := by omega
      have e3 : m % 128 * 128 ^ i + m / 128 * 128 ^ (i + 1) = m * 128 ^ i := by
        rw [pow_s, ← Nat.mul_assoc, ← Nat.add_mul]
        congr 1; omega
      rw [e2, List.length_cons]
      simp only [Prod.mk.injEq, and_true]
      omega
theorem takeU_putU (m : Nat) (r : List UInt8) (h : m < 18446744073709551616) : takeU (putU m ++ r) = (m, (putU m).length, 0) := by
  unfold takeU
  rw [takeGo_putU r m 0 0 (by omega) (by simpa using h) (by omega)]
  simp
theorem takeT_putT (s r : List UInt8) (h : s.length < 18446744073709551616) : takeT (putT s ++ r) (s.length : Int) = (s, (putT s).length, 0) := by
  have hu := takeU_putU s.length (s ++ r) h
  have e : putT s ++ r = putU s.length ++ (s ++ r) := by rw [putT, List.append_assoc]
  rw [e, takeT_text hu (by simp) (by simp)]
  simp [putT]

theorem big_step (n k : Nat) : 256 * (n / 256 ^ (k + 1)) + n / 256 ^ k % 256 = n / 256 ^ k := by
  rw [Nat.pow_succ, ← Nat.div_div_eq_div_mul]; exact Nat.div_add_mod _ _
theorem wordGo_big (n : Nat) (h : n < 18446744073709551616) : wordGo (big n) = n := by
  have e : big n = [bigByte n 0, bigByte n 1, bigByte n 2, bigByte n 3, bigByte n 4, bigByte n 5, bigByte n 6, bigByte n 7] := by simp [big, List.range, List.range.loop]
  have hb : ∀ j, (bigByte n j).toNat = n / 256 ^ (7 - j) % 256 := fun j => ofNat_low (Nat.mod_lt _ (by omega))
  have h7 : 256 * 0 + n / 256 ^ 7 % 256 = n / 256 ^ 7 := by
    have : n / 256 ^ 7 < 256 := Nat.div_lt_of_lt_mul (by have : (256 : Nat) ^ 7 * 256 = 18446744073709551616 := by decide
                                                         omega)
    rw [Nat.mod_eq_of_lt this]; simp
  rw [e]
  unfold wordGo
  simp only [List.foldl_cons, List.foldl_nil, hb]
  rw [show 7 - 0 = 7 from rfl, show 7 - 1 = 6 from rfl, show 7 - 2 = 5 from rfl, show 7 - 3 = 4 from rfl, show 7 - 4 = 3 from rfl, show 7 - 5 = 2 from rfl, show 7 - 6 = 1 from rfl, show 7 - 7 = 0 from rfl]
  rw [h7, big_step n 6, big_step n 5, big_step n 4, big_step n 3, big_step n 2, big_step n 1, big_step n 0]
  simp
theorem big_len (n : Nat) : (big n).length = 8 := by simp [big]
theorem keyOf_turn (m : Int) (h1 : -9223372036854775808 ≤ m) (h2 : m ≤ 9223372036854775807) : keyOf (turn m) = m := by
  have ht := turn_lt m h2
  have h := u64_xor_nat (turn m) 9223372036854775808 ht (by omega)
  unfold keyOf
  rw [show (9223372036854775808 : Int) = ((9223372036854775808 : Nat) : Int) from rfl, h, xor_top _ ht]
  unfold turn at *
  by_cases hm : 0 ≤ m
  · rw [if_neg (by omega), IntWalk.wrap64_in _ ⟨by omega, by omega⟩]; omega
  · rw [if_pos (by omega)]
    have : (((m + 9223372036854775808).toNat + 9223372036854775808 : Nat) : Int) = m + 18446744073709551616 := by omega
    rw [this]
    unfold wrap64
    omega
theorem takeKI_big (m : Int) (r : List UInt8) (h1 : -9223372036854775808 ≤ m) (h2 : m ≤ 9223372036854775807) : takeKI (big (turn m) ++ r) = (m, 8, 0) := by
  rw [takeKI_eight (by rw [List.length_append, big_len]; omega), List.take_left' (big_len _), wordGo_big _ (turn_lt m h2), keyOf_turn m h1 h2]

theorem takeKGo_key (r : List UInt8) : ∀ (s acc : List UInt8) (k : Nat), takeKGo (keyGo s ++ [0, 1] ++ r) acc k = (acc ++ s, k + (keyGo s).length + 2, 0)
  | [], acc, k => by
    show takeKGo (0 :: 1 :: r) acc k = _
    rw [tk_end rfl rfl]; simp [keyGo]
  | c :: s, acc, k => by
    by_cases h : c.toNat = 0
    · have hc : c = 0 := UInt8.toNat_inj.1 (by simpa using h)
      rw [key_zero h]
      show takeKGo (c :: 255 :: (keyGo s ++ [0, 1] ++ r)) acc k = _
      rw [tk_zero h rfl, takeKGo_key r s]
      subst hc
      simp; omega
    · rw [key_plain h]
      show takeKGo (c :: (keyGo s ++ [0, 1] ++ r)) acc k = _
      rw [tk_plain h, takeKGo_key r s]
      simp; omega
theorem takeK_keyT (s r : List UInt8) : takeK (keyT s ++ r) = (s, (keyT s).length, 0) := by
  unfold takeK keyT
  rw [takeKGo_key]
  simp

/-! order -/
theorem foldl_ge (l : List UInt8) : ∀ a : Nat, a * 256 ^ l.length ≤ l.foldl (fun n c => 256 * n + c.toNat) a := by
  induction l with
  | nil => intro a; simp
  | cons c l ih =>
    intro a
    have h := ih (256 * a + c.toNat)
    have h2 : (256 * a) * 256 ^ l.length ≤ (256 * a + c.toNat) * 256 ^ l.length := Nat.mul_le_mul_right _ (by omega)
    rw [List.foldl_cons, List.length_cons, Nat.pow_succ]
    have h3 : a * (256 ^ l.length * 256) = (256 * a) * 256 ^ l.length := by rw [Nat.mul_comm 256 a, Nat.mul_assoc, Nat.mul_comm 256]
    omega
theorem bl_word : ∀ (p q : List UInt8) (a : Nat), p.length = q.length → bytesLess p q = decide (p.foldl (fun n c => 256 * n + c.toNat) a < q.foldl (fun n c => 256 * n + c.toNat) a)
  | [], [], a, _ => by simp [bl_nil_r]
  | c :: p, d :: q, a, h => by
    have hl : p.length = q.length := by simpa using h
    rw [bl_cons, List.foldl_cons, List.foldl_cons]
    rcases Nat.lt_trichotomy c.toNat d.toNat with h1 | h1 | h1
    · have e1 : decide (c.toNat < d.toNat) = true := by simpa using h1
      have hlt := foldl_lt p (256 * a + c.toNat)
      have hge := foldl_ge q (256 * a + d.toNat)
      rw [← hl] at hge
      have hm : (256 * a + c.toNat + 1) * 256 ^ p.length ≤ (256 * a + d.toNat) * 256 ^ p.length := Nat.mul_le_mul_right _ (by omega)
      rw [e1, Bool.true_or]
      exact (decide_eq_true (by omega)).symm
    · have e1 : decide (c.toNat < d.toNat) = false := by simp; omega
      have e2 : decide (c.toNat = d.toNat) = true := by simpa using h1
      rw [e1, e2, h1, bl_word p q (256 * a + d.toNat) hl]; simp
    · have e1 : decide (c.toNat < d.toNat) = false := by simp; omega
      have e2 : decide (c.toNat = d.toNat) = false := by simp; omega
      have hlt := foldl_lt q (256 * a + d.toNat)
      have hge := foldl_ge p (256 * a + c.toNat)
      rw [hl] at hge
      have hm : (256 * a + d.toNat + 1) * 256 ^ q.length ≤ (256 * a + c.toNat) * 256 ^ q.length := Nat.mul_le_mul_right _ (by omega)
      rw [e1, e2, Bool.false_or, Bool.false_and]
      exact (decide_eq_false (by omega)).symm
theorem bl_append : ∀ (p q x y : List UInt8), p.length = q.length → p ≠ q → bytesLess (p ++ x) (q ++ y) = bytesLess p q
  | [], [], _, _, _, h => absurd rfl h
  | c :: p, d :: q, x, y, h, hne => by
    rw [List.cons_append, List.cons_append, bl_cons, bl_cons]
    by_cases e : c.toNat = d.toNat
    · have hc : c = d := UInt8.toNat_inj.1 e
      rw [bl_append p q x y (by simpa using h) (by rintro rfl; exact hne (by rw [hc]))]
    · have e2 : decide (c.toNat = d.toNat) = false := by simpa using e
      rw [e2]; simp
theorem big_rises (m m' : Int) (x y : List UInt8) (h1 : -9223372036854775808 ≤ m) (h2 : m ≤ 9223372036854775807) (h1' : -9223372036854775808 ≤ m') (h2' : m' ≤ 9223372036854775807) (hne : m ≠ m') :
    bytesLess (big (turn m) ++ x) (big (turn m') ++ y) = decide (m < m') := by
  have t1 := turn_lt m h2
  have t2 := turn_lt m' h2'
  have w1 := wordGo_big _ t1
  have w2 := wordGo_big _ t2
  have hb : big (turn m) ≠ big (turn m') := by
    intro e
    rw [e, w2] at w1
    unfold turn at w1; omega
  rw [bl_append _ _ x y (by rw [big_len, big_len]) hb, bl_word _ _ 0 (by rw [big_len, big_len])]
  have e1 : (big (turn m)).foldl (fun n c => 256 * n + c.toNat) 0 = turn m := w1
  have e2 : (big (turn m')).foldl (fun n c => 256 * n + c.toNat) 0 = turn m' := w2
  rw [e1, e2, decide_eq_decide]
  unfold turn; omega

/-- two keys part before either ends, and as their texts do -/
theorem key_rises (x y : List UInt8) : ∀ (s t : List UInt8), s ≠ t → bytesLess (keyT s ++ x) (keyT t ++ y) = bytesLess s t ∧ common (keyT s) (keyT t) < (keyT s).length ∧ common (keyT s) (keyT t) < (keyT t).length
  | [], [], h => absurd rfl h
  | [], d :: t, _ => by
    unfold keyT
    by_cases h : d.toNat = 0
    · have hd : d = 0 := UInt8.toNat_inj.1 (by simpa using h)
      subst hd
      rw [key_zero rfl]
      refine ⟨rfl, ?_, ?_⟩
      · simp [keyGo, common]
      · simp [keyGo, common]
    · rw [key_plain h]
      have e1 : ¬ (0 : UInt8).toNat = d.toNat := by simp; omega
      refine ⟨?_, ?_, ?_⟩
      · show bytesLess (0 :: ([1] ++ x)) (d :: (keyGo t ++ [0, 1] ++ y)) = true
        rw [bl_cons]
        have : decide ((0 : UInt8).toNat < d.toNat) = true := by simp; omega
        rw [this]; rfl
      · show common (0 :: [1]) (d :: (keyGo t ++ [0, 1])) < _
        rw [common_ne e1]; simp [keyGo]
      · show common (0 :: [1]) (d :: (keyGo t ++ [0, 1])) < _
        rw [common_ne e1]; simp
  | c :: s, [], _ => by
    unfold keyT
    by_cases h : c.toNat = 0
    · have hd : c = 0 := UInt8.toNat_inj.1 (by simpa using h)
      subst hd
      rw [key_zero rfl]
      refine ⟨rfl, ?_, ?_⟩
      · simp [keyGo, common]
      · simp [keyGo, common]
    · rw [key_plain h]
      have e1 : ¬ c.toNat = (0 : UInt8).toNat := by simp; omega
      refine ⟨?_, ?_, ?_⟩
      · show bytesLess (c :: (keyGo s ++ [0, 1] ++ x)) (0 :: ([1] ++ y)) = false
        rw [bl_cons]
        have e2 : decide (c.toNat < (0 : UInt8).toNat) = false := by simp
        have e3 : decide (c.toNat = (0 : UInt8).toNat) = false := by simpa using e1
        rw [e2, e3]; rfl
      · show common (c :: (keyGo s ++ [0, 1])) (0 :: [1]) < _
        rw [common_ne e1]; simp
      · show common (c :: (keyGo s ++ [0, 1])) (0 :: [1]) < _
        rw [common_ne e1]; simp [keyGo]
  | c :: s, d :: t, hne => by
    unfold keyT
    by_cases e : c.toNat = d.toNat
    · have hcd : c = d := UInt8.toNat_inj.1 e
      subst hcd
      have ih := key_rises x y s t (by rintro rfl; exact hne rfl)
      unfold keyT at ih
      have hb : bytesLess (c :: s) (c :: t) = bytesLess s t := by rw [bl_cons]; simp
      rw [hb]
      by_cases h : c.toNat = 0
      · rw [key_zero h, key_zero h]
        refine ⟨?_, ?_, ?_⟩
        · show bytesLess (c :: 255 :: (keyGo s ++ [0, 1] ++ x)) (c :: 255 :: (keyGo t ++ [0, 1] ++ y)) = _
          rw [bl_cons, bl_cons, ih.1]; simp
        · show common (c :: 255 :: (keyGo s ++ [0, 1])) (c :: 255 :: (keyGo t ++ [0, 1])) < (c :: 255 :: (keyGo s ++ [0, 1])).length
          rw [common_eq rfl, common_eq rfl]; simp only [List.length_cons]; have := ih.2.1; omega
        · show common (c :: 255 :: (keyGo s ++ [0, 1])) (c :: 255 :: (keyGo t ++ [0, 1])) < (c :: 255 :: (keyGo t ++ [0, 1])).length
          rw [common_eq rfl, common_eq rfl]; simp only [List.length_cons]; have := ih.2.2; omega
      · rw [key_plain h, key_plain h]
        refine ⟨?_, ?_, ?_⟩
        · show bytesLess (c :: (keyGo s ++ [0, 1] ++ x)) (c :: (keyGo t ++ [0, 1] ++ y)) = _
          rw [bl_cons, ih.1]; simp
        · show common (c :: (keyGo s ++ [0, 1])) (c :: (keyGo t ++ [0, 1])) < (c :: (keyGo s ++ [0, 1])).length
          rw [common_eq rfl]; simp only [List.length_cons]; have := ih.2.1; omega
        · show common (c :: (keyGo s ++ [0, 1])) (c :: (keyGo t ++ [0, 1])) < (c :: (keyGo t ++ [0, 1])).length
          rw [common_eq rfl]; simp only [List.length_cons]; have := ih.2.2; omega
    · have e2 : decide (c.toNat = d.toNat) = false := by simpa using e
      have key_head : ∀ (a : UInt8) (l : List UInt8), ∃ r, keyGo (a :: l) = a :: r := by
        intro a l
        by_cases h : a.toNat = 0
        · exact ⟨_, key_zero h⟩
        · exact ⟨_, key_plain h⟩
      obtain ⟨r1, h1⟩ := key_head c s
      obtain ⟨r2, h2⟩ := key_head d t
      rw [h1, h2]
      refine ⟨?_, ?_, ?_⟩
      · show bytesLess (c :: (r1 ++ [0, 1] ++ x)) (d :: (r2 ++ [0, 1] ++ y)) = _
        rw [bl_cons, bl_cons, e2]; simp
      · show common (c :: (r1 ++ [0, 1])) (d :: (r2 ++ [0, 1])) < _
        rw [common_ne e]; simp
      · show common (c :: (r1 ++ [0, 1])) (d :: (r2 ++ [0, 1])) < _
        rw [common_ne e]; simp
end Cd
end Go.Proofs.Ytiijkneomecmiaa

/-
  Plain mathematics of chapter 8: a version's place as bytes, blocks, a table.
-/
namespace Go.Proofs.Ytiijkneomecmiaa
open Go.RowKit
namespace Tb
open Op (bytesLess)
open Mt (Ver mayB lessB placeB)
/-- what stands behind the key: twice the sequence number, one more of a Del, all bits turned -/
def mark (v : Ver) : Nat := 18446744073709551615 - (2 * v.seq.toNat + if v.del then 1 else 0)
def encKey (v : Ver) : List UInt8 := if mayB v = true then Cd.keyT v.key ++ Cd.big (mark v) else []
/-- a version out of a key and a mark -/
def verOf (key : List UInt8) (w : Nat) : Ver := ⟨key, (((18446744073709551615 - w) / 2 : Nat) : Int), decide ((18446744073709551615 - w) % 2 = 1), []⟩
def none' : Ver := ⟨[], 0, false, []⟩
/-- P8.1 -/
def decKey (s : List UInt8) : Ver × Nat :=
  if (Cd.takeK s).2.2 = 0 ∧ s.length = (Cd.takeK s).2.1 + 8 then
    if encKey (verOf (Cd.takeK s).1 (Cd.wordGo (s.drop (Cd.takeK s).2.1))) = s then (verOf (Cd.takeK s).1 (Cd.wordGo (s.drop (Cd.takeK s).2.1)), 0) else (none', 3)
  else (none', 3)
theorem bl_pre : ∀ (p x y : List UInt8), bytesLess (p ++ x) (p ++ y) = bytesLess x y
  | [], _, _ => rfl
  | c :: r, x, y => by rw [List.cons_append, List.cons_append, Cd.bl_cons, bl_pre r]; simp
theorem bl_big (m n : Nat) (hm : m < 18446744073709551616) (hn : n < 18446744073709551616) : bytesLess (Cd.big m) (Cd.big n) = decide (m < n) := by
  have h := Cd.bl_word (Cd.big m) (Cd.big n) 0 (by rw [Cd.big_len, Cd.big_len])
  have h1 := Cd.wordGo_big m hm
  have h2 := Cd.wordGo_big n hn
  unfold Cd.wordGo at h1 h2
  rw [h1, h2] at h
  exact h
theorem may_seq {v : Ver} (h : mayB v = true) : 1 ≤ v.seq ∧ v.seq ≤ 1125899906842624 ∧ 1 ≤ v.key.length ∧ v.key.length ≤ 96 ∧ v.val.length ≤ 16384 ∧ (v.del = true → v.val = []) := by
  unfold mayB at h
  simp only [Bool.and_eq_true, decide_eq_true_eq, Bool.or_eq_true, Bool.not_eq_true'] at h
  obtain ⟨⟨⟨⟨⟨h1, h2⟩, h3⟩, h4⟩, h5⟩, h6⟩ := h
  exact ⟨h3, h4, h1, h2, h5, fun hd => by rcases h6 with h6 | h6; · rw [h6] at hd; cases hd
                                          · exact h6⟩
/-- places as bytes stand as versions do -/
theorem enc_rises {a b : Ver} (ha : mayB a = true) (hb : mayB b = true) (hn : ¬ (a.key = b.key ∧ a.seq = b.seq)) : bytesLess (encKey a) (encKey b) = lessB a b := by
  unfold encKey lessB
  rw [if_pos ha, if_pos hb]
  obtain ⟨a1, a2, _⟩ := may_seq ha
  obtain ⟨b1, b2, _⟩ := may_seq hb
  by_cases h : a.key = b.key
  · rw [if_pos h, h, bl_pre]
    have hs : a.seq ≠ b.seq := fun e => hn ⟨h, e⟩
    unfold mark
    rw [bl_big _ _ (by omega) (by omega)]
    congr 1
    apply propext
    split <;> split <;> omega
  · rw [if_neg h]
    exact (Cd.key_rises _ _ a.key b.key h).1
theorem enc_ne {v : Ver} : (encKey v = []) ↔ mayB v = false := by
  unfold encKey
  cases h : mayB v with
  | true => simp [Cd.keyT]
  | false => simp
theorem enc_len (v : Ver) : (encKey v).length ≤ 202 := by
  unfold encKey
  split
  · next h =>
    obtain ⟨_, _, _, h4, _⟩ := may_seq h
    have := Cd.keyGo_len v.key
    rw [List.length_append, Cd.big_len]
    unfold Cd.keyT
    simp
    omega
  · simp
theorem verOf_mark {v : Ver} (h : mayB v = true) : verOf v.key (mark v) = { v with val := [] } := by
  obtain ⟨h1, h2, _⟩ := may_seq h
  obtain ⟨k, q, d, x⟩ := v
  unfold verOf mark
  simp only
  cases d
  · simp only [Ver.mk.injEq, true_and, and_true, Bool.false_eq_true, if_false]
    constructor
    · simp only at h1 h2; omega
    · apply decide_eq_false; simp only at h1 h2; omega
  · simp only [Ver.mk.injEq, true_and, and_true, if_true]
    constructor
    · simp only at h1 h2; omega
    · apply decide_eq_true; simp only at h1 h2; omega
theorem mayB_val {v : Ver} (h : mayB v = true) : mayB { v with val := [] } = true := by
  obtain ⟨h1, h2, h3, h4, h5, h6⟩ := may_seq h
  unfold mayB
  simp [h1, h2, h3, h4]
/-- a place is read again -/
theorem dec_enc {v : Ver} (h : mayB v = true) : decKey (encKey v) = ({ v with val := [] }, 0) := by
  have e : encKey v = Cd.keyT v.key ++ Cd.big (mark v) := by unfold encKey; rw [if_pos h]
  have ht : Cd.takeK (encKey v) = (v.key, (Cd.keyT v.key).length, 0) := by rw [e]; exact Cd.takeK_keyT _ _
  have hw : Cd.wordGo ((encKey v).drop (Cd.keyT v.key).length) = mark v := by
    rw [e, List.drop_left]
    exact Cd.wordGo_big _ (by unfold mark; omega)
  unfold decKey
  rw [ht]
  simp only
  rw [hw, if_pos ⟨trivial, by rw [e, List.length_append, Cd.big_len]⟩, verOf_mark h, if_pos]
  rw [e]
  unfold encKey
  rw [if_pos (mayB_val h)]
  rfl
theorem dec_ok {s : List UInt8} {v : Ver} (h : decKey s = (v, 0)) : encKey v = s ∧ v.val = [] := by
  unfold decKey at h
  split at h
  · split at h
    · next h2 => injection h with h1 _; subst h1; exact ⟨h2, rfl⟩
    · cases (Prod.ext_iff.1 h).2
  · cases (Prod.ext_iff.1 h).2
theorem xor_all (n : Nat) (h : n < 18446744073709551616) : 18446744073709551615 ^^^ n = 18446744073709551615 - n := by
  have h1 := congrArg BitVec.toNat (BitVec.allOnes_xor (x := BitVec.ofNat 64 n))
  rw [BitVec.toNat_xor, BitVec.toNat_not, BitVec.toNat_allOnes, BitVec.toNat_ofNat, Nat.mod_eq_of_lt (by omega)] at h1
  exact h1
theorem turn_all (N : Int) (h0 : 0 ≤ N) (h1 : N < 18446744073709551616) : bits BinOp.xor IntKind.u64 IntKind.u64.max N = 18446744073709551615 - N := by
  obtain ⟨n, rfl⟩ := Int.eq_ofNat_of_zero_le h0
  have e : IntKind.u64.max = ((18446744073709551615 : Nat) : Int) := rfl
  rw [e, u64_xor_nat _ n (by omega) (by omega), xor_all n (by omega)]
  omega
theorem takeKGo_ok : ∀ (n : Nat) (l acc : List UInt8) (k : Nat), l.length ≤ n → (Cd.takeKGo l acc k).1.length ≤ acc.length + l.length ∧ (Cd.takeKGo l acc k).2.1 ≤ k + l.length
  | _, [], acc, k, _ => ⟨Nat.zero_le _, Nat.zero_le _⟩
  | 0, _ :: _, _, _, h => by simp at h
  | n + 1, c :: r, acc, k, h => by
    simp only [List.length_cons] at h ⊢
    by_cases hc : c.toNat = 0
    · cases r with
      | nil => rw [Cd.tk_last hc]; simp
      | cons d r' =>
        by_cases h1 : d.toNat = 1
        · rw [Cd.tk_end hc h1]; simp <;> omega
        · by_cases h2 : d.toNat = 255
          · rw [Cd.tk_zero hc h2]
            have := takeKGo_ok n r' (acc ++ [0]) (k + 2) (by simp at h; omega)
            simp at this ⊢
            omega
          · rw [Cd.tk_bad hc h1 h2]; simp
    · rw [Cd.tk_plain hc]
      have := takeKGo_ok n r (acc ++ [c]) (k + 1) (by omega)
      simp at this ⊢
      omega
theorem takeK_ok (l : List UInt8) : (Cd.takeK l).1.length ≤ l.length ∧ (Cd.takeK l).2.1 ≤ l.length := by
  have := takeKGo_ok l.length l [] 0 (Nat.le_refl _)
  simp at this
  exact this
theorem decKey_at {s key : List UInt8} {n c : Nat} (ht : Cd.takeK s = (key, n, c)) :
    decKey s = if c = 0 ∧ s.length = n + 8 then (if encKey (verOf key (Cd.wordGo (s.drop n))) = s then (verOf key (Cd.wordGo (s.drop n)), 0) else (none', 3)) else (none', 3) := by
  unfold decKey
  rw [ht]
end Tb
end Go.Proofs.Ytiijkneomecmiaa

/-
  codec.join: a range over a function that collects texts.
-/
namespace Go.Proofs.Ytiijkneomecmiaa
open Go.RowKit Go.Shelf
set_option linter.unusedSimpArgs false
set_option linter.unusedVariables false

attribute [local go_sem] Oper.semAt_some

theorem wpListIn_append_own_string {F : Fence} {n' : Nat} {P : Program} {ops : Array Oper} {rest : List Oper} {o : Oper} {a : Act} {Q : Exit → Act → World → Prop} (w : World) (hgd : o.guard = none) (sl x : Operand) (t u : TypeId)
    (ho : o.op = .call { callee := .builtin .append, args := #[sl, x], argTypes := #[t, u] })
    (base : Nat) (e : TypeId) (i : TypeInfo) (ht : P.underlying t = some (.slice e)) (hu : P.underlying u = some .string) (hi : P.info? e = some i) (hz : i.zero = some (.int .u8 0))
    (hsize : i.size = 1) (hby : i.bytes = 1)
    (v : Value) (n : Nat) (xs : List Value) (hs : a.eval sl = v) (hown : w.ownsRow base e 1 v n xs) (s : ByteArray) (hx : a.eval x = .string s)
    (h63 : n + s.size ≤ maxLen) (hbytes : n + s.size ≤ 140737488355328) (hbase : base ≤ w.heap.size)
    (h : ∀ v' w', w'.ownsRow base e 1 v' (n + s.size) (xs ++ Lib.strCells s) → w.grownBy w' v.ownBlock → wpListIn F n' P ops Q rest (a.put o.dst v') w') : wpListIn F n' P ops Q (o :: rest) a w := by
  refine wpListIn_plain hgd fun K hK => ?_
  obtain ⟨v', w', hr, h2, h3, h4⟩ := Lib.run_append_own_string (P := P) w base t u o.type e i ht hu hi hz hsize hby v n xs hown s h63 hbytes hbase
  unfold Oper.wpIn
  refine ⟨?_, ?_⟩
  · simp [Oper.about, ho, resolve, Target.leads, Sem.run_pure]
  · rw [Oper.semAt_plain F _ _ (by rw [ho]; intro c hc'; cases hc')]
    simp [execOp, ho, resolve, invoke, builtin, hs, hx, hr, Result.andThen]
    exact hK _ _ (h v' w' h2 h3)

/-- a text that a range hands on: of at most so many bytes -/
abbrev Piece := { x : List UInt8 // x.length ≤ 1048576 }
def flat (pre : List Piece) : List UInt8 := (pre.map (·.1)).flatten
theorem flat_snoc (pre : List Piece) (x : Piece) : flat (pre ++ [x]) = flat pre ++ x.1 := by simp [flat]
theorem flat_len (pre : List Piece) : (flat pre).length ≤ pre.length * 1048576 := by
  induction pre with
  | nil => simp [flat]
  | cons x r ih =>
    have : flat (x :: r) = x.1 ++ flat r := by simp [flat]
    rw [this, List.length_append, List.length_cons]
    have := x.2
    omega
theorem ownsRow_slice {W : World} {base : Nat} {e : TypeId} {size : Nat} {v : Value} {k : Nat} {xs : List Value} (h : W.ownsRow base e size v k xs) : ∃ ao l cap, v = .slice ao l cap := by
  rcases h.2 with ⟨rfl, _⟩ | ⟨g, cap, _, rfl, _⟩
  · exact ⟨_, _, _, rfl⟩
  · exact ⟨_, _, _, rfl⟩
theorem stops_mono {α : Type} {F : Fence} {n : Nat} {P : Program} {g : Nat} {lb : Array Value} {encs : α → Array Value} {Kp : World → World → Prop} {S Sp : List α → Prop} {N : Nat} {w w0 : World}
    (h : SeqStopsK F n P g lb encs Kp S Sp N w) (hb : Below w.heap.size w w0) : SeqStopsK F n P g lb encs Kp S Sp N w0 :=
  fun l J Jx W hW => h l J Jx W (hb.trans (hW.mono hb.size))

/-- 'Boxed.appended' where the append laid no block of its own ahead -/
theorem Boxed_appended' {W w1 : World} {n₀ B : Nat} {t e : TypeId} {size : Nat} {v v' : Value} {k m : Nat} {xs ys : List Value}
    (hv : Boxed W B t v) (hte : t ≠ e) (hrow : W.ownsRow n₀ e size v k xs) (hn₀ : n₀ ≤ W.heap.size) (hB : n₀ ≤ B)
    (hown' : w1.ownsRow n₀ e size v' m ys) (hgrow : W.grownBy w1 v.ownBlock) :
    Boxed w1 B t v ∧ Boxed (w1.setCell ⟨B, 0, none⟩ v') B t v' ∧ (w1.setCell ⟨B, 0, none⟩ v').ownsRow n₀ e size v' m ys ∧ KeepsOthers W (w1.setCell ⟨B, 0, none⟩ v') ∧ Below n₀ W (w1.setCell ⟨B, 0, none⟩ v') := by
  have hv1 : Boxed w1 B t v := hv.kept hgrow (hv.not_row hte hrow)
  refine ⟨hv1, hv1.set v', hown'.kept (grownBy_setCell' w1 B v') (.inr (hv1.not_row hte hown').symm), ?_, ?_⟩
  · refine (KeepsOthers.of_grownBy hgrow fun j o ej hj => ?_).trans (KeepsOthers.setCell _ _ _)
    rcases hrow.2 with ⟨rfl, _⟩ | ⟨g, cap, cur, rfl, _, hgb, _⟩
    · simp [Value.ownBlock] at ej
    · obtain rfl : g = j := by simpa [Value.ownBlock] using ej
      rw [hgb] at hj; cases hj; rfl
  · refine ((Below.refl n₀ W).grown hgrow hn₀ fun j ej => ?_).setCell (p := ⟨B, 0, none⟩) hB v'
    rcases hrow.2 with ⟨rfl, _⟩ | ⟨g, cap, cur, rfl, hb, _, _⟩
    · simp [Value.ownBlock] at ej
    · obtain rfl : g = j := by simpa [Value.ownBlock] using ej
      exact hb

set_option maxRecDepth 100000 in
set_option maxHeartbeats 2000000 in
/-- join: the pieces one behind the other -/
theorem join_in (F : Fence) (n : Nat) (hf : F.fn 43) (hro : F.round = none) (hn : 3 ≤ n) (gf : Nat) (hgf : F.fn gf) (eg : ∀ args w, (callFunc gf args).run Try.prog w = .ok (.enter gf args) w) (lb : Array Value)
    (N : Nat) (hN : N ≤ 4194304) (w : World) {S Sp : List Piece → Prop}
    (hseq : SeqStopsK F (n - 1) Try.prog gf lb (fun x : Piece => #[Value.string (Cd.bs x.1)]) (Below w.heap.size) S Sp N w) :
    CallsIn F n Try.prog 43 #[.func (.func gf) #[] lb] w fun e W' => ∃ ys, S ys ∧ e = .returned (.string (Cd.bs (flat ys))) ∧ Below w.heap.size w W' := by
  have h1 : 1 ≤ n := by omega
  obtain ⟨i0, hi, hz0, hz1, hz2⟩ := info_parts info_u8
  refine callsIn_of_wp_marks Try.func43 rfl hf ?_ hro
  simp only [Try.ntmps43, List.size_toArray, List.length_cons, List.length_nil, Nat.reduceAdd, Nat.reduceSub, Array.replicate_succ, Array.replicate_zero, List.push_toArray, List.append_toArray, List.nil_append, List.cons_append]
  gi_wp2
  have bO := Boxed.new w 48 (.slice none 0 0)
  have hB0 : Below w.heap.size w (w.alloc (.cells #[.slice none 0 0] 48)) := (Below.refl _ w).alloc (Nat.le_refl _) _
  refine wpIn_rangeFunc_ownG hro h1 (gf := gf) (lb := lb) rfl hgf eg
    (stops_mono hseq hB0) belowK_t (belowK_b (by simp)) (Below.refl _ _) (fun _ => rfl)
    (fun pre W => (∃ v, Boxed W w.heap.size 48 v ∧ W.ownsRow w.heap.size 5 1 v (flat pre).length (Cd.cs (flat pre)) ∧ True) ∧ Below w.heap.size w W)
    (fun _ _ _ => False)
    (OwnFrom.and (Own.from (holdsRow_own w.heap.size w.heap.size 48 5 1 (fun pre => (flat pre).length) (fun pre => Cd.cs (flat pre)) (fun _ _ => True)) _) (ownFrom_below (Nat.le_refl _) (by simp)))
    (fun _ _ _ _ _ hs _ _ => hs)
    ⟨⟨_, bO, World.ownsRow_nil _ _ _ _, trivial⟩, hB0⟩
    (fun x => { tmps := #[.func (.func gf) #[] lb, undef, .string ⟨#[]⟩, .pointer (some ⟨w.heap.size, 0, none⟩), .string (Cd.bs x.1), .func (.func gf) #[] lb, .string (Cd.bs x.1), undef, undef, undef, undef, undef], defers := [] }) ?assign ?body ?done ?stop
  case assign =>
    intro l x W K hK
    gi_wp2
    exact hK
  case body =>
    rintro l pre x W ⟨⟨v, hv, hrow, _⟩, hB⟩ hlt
    have hc := hv.cell
    have hf := hv.frozen
    have hpl := flat_len pre
    have hx := x.2
    have hsz : (Cd.bs x.1).size = x.1.length := rfl
    have HSZ := Lib.hid hsz
    clear hsz
    have hBs := hB.size
    gi_wp2_with (gi_at_builtin; refine wpListIn_append_own_string _ rfl _ _ 48 9 rfl w.heap.size 5 i0 Try.underlying48 Try.underlying9 hi hz0 hz1 hz2 _ _ _ rfl hrow (Cd.bs x.1) rfl (by rw [HSZ.out]; unfold maxLen; omega) (by rw [HSZ.out]; omega) hBs ?_; intro v' w1 hown' hgrow; obtain ⟨ao, l', cap', rfl⟩ := ownsRow_slice hown'; obtain ⟨hv1, hv2, hr2, hk2, hb2⟩ := Boxed_appended' hv (by decide) hrow hBs (Nat.le_refl _) hown' hgrow; have hc1 := hv1.cell; have hf1 := hv1.frozen)
    exact ⟨hk2.from _, hb2, ⟨_, hv2, by rw [flat_snoc]; exact Cd.own_app (l' := x.1) rfl rfl hr2, trivial⟩, hB.trans hb2⟩
  case done =>
    rintro D ys W hD hS ⟨⟨v, hv, hrow, _⟩, hB⟩ hK
    have hc := hv.cell
    have hcv := conv_any hrow
    gi_wp2
    refine ⟨by simp, .inl ⟨_, _, rfl, run_takeDeferred hK, ?_⟩⟩
    exact ⟨_, results_tmp rfl _ _ _, ys, hS, rfl, hB.trans (belowK_b (w := w) (Nat.le_refl _) W D _ _ (by simp at hD; omega) hK rfl rfl)⟩
  case stop =>
    rintro D c pre W _ _ h _
    exact h.elim
end Go.Proofs.Ytiijkneomecmiaa

/-
  slices.Values over texts, and PutText, which joins two of them.
-/
namespace Go.Proofs.Ytiijkneomecmiaa
open Go.RowKit Go.Shelf
set_option linter.unusedSimpArgs false
set_option linter.unusedVariables false

attribute [local go_sem] Oper.semAt_some

/-- what has come when k rounds are over: f 0, .., f (k - 1) -/
def upto {α : Type} (f : Nat → α) (k : Nat) : List α := (List.range k).map f
theorem upto_succ {α : Type} (f : Nat → α) (k : Nat) : upto f (k + 1) = upto f k ++ [f k] := by simp [upto, List.range_succ]
theorem upto_length {α : Type} (f : Nat → α) (k : Nat) : (upto f k).length = k := by simp [upto]

set_option maxRecDepth 100000 in
set_option maxHeartbeats 2000000 in
theorem values1_in (F : Fence) (n : Nat) (h7 : F.fn 74) (hro : F.round = none) (hn : 1 ≤ n) (l Bs n₀ b len cap : Nat) (f : Nat → Piece) (hreach : len ≤ 1000000) (hb : b < n₀) (J Jx : List Piece → World → Prop)
    (hY : ∀ pre x W, J pre W → pre.length < len → YieldAt F (n - 1) Try.prog l #[.string (Cd.bs x.1)] W fun e W' =>
      (e = .returned (.bool true) ∧ J (pre ++ [x]) W' ∧ Below n₀ W W') ∨ (e = .returned (.bool false) ∧ Jx (pre ++ [x]) W'))
    (W : World) (hBs : W.cell? ⟨Bs, 0, none⟩ = some (.slice (some ⟨b, 0, none⟩) len cap)) (hc : ∀ j, j < len → W.cell? ⟨b, j, none⟩ = some (.string (Cd.bs (f j).1))) (h0 : J [] W) :
    CallsIn F n Try.prog 74 #[.func (.yield l) #[] #[], .pointer (some ⟨Bs, 0, none⟩)] W fun e W' => (∃ v, e = .returned v) ∧
      ((∃ ys, ys = upto f len ∧ J ys W') ∨ (∃ pre, True ∧ Jx pre W')) := by
  refine callsIn_of_wp Try.func74 rfl h7 ?_ hro
  simp only [Try.ntmps74, List.size_toArray, List.length_cons, List.length_nil, Nat.reduceAdd, Nat.reduceSub, Array.replicate_succ, Array.replicate_zero, List.push_toArray, List.append_toArray, List.nil_append, List.cons_append]
  gi_wp2
  gi_loopw [7] (fun i wr => ∃ k : Nat, k ≤ len ∧ i = .int .i64 k ∧ J (upto f k) wr ∧ Below n₀ W wr)
    (fun i _ => len - (intOf i).toNat)
  case atStart => exact ⟨0, Nat.zero_le _, rfl, h0, Below.refl _ _⟩
  case round =>
    obtain ⟨k, hk, rfl, hJs, hnx⟩ := hrel
    have hcx : k < len → wr.cell? ⟨b, k, none⟩ = some (.string (Cd.bs (f k).1)) := fun h => (hnx.cell (p := ⟨b, k, none⟩) hb).trans (hc k h)
    by_cases hlt : k < len
    · obtain ⟨fn, tmps, assign, body, hy, hR⟩ := hY _ (f k) wr hJs (by rw [upto_length]; exact hlt)
      have hcx' := hcx hlt
      gi_wp2
      refine hR.mono ?_
      rintro e W3 (⟨rfl, hJ3, hk3⟩ | ⟨rfl, hJx3⟩)
      · gi_wp2
        go_roundw
        case rel => exact ⟨k + 1, by omega, by simp, by rw [upto_succ]; exact hJ3, hnx.trans hk3⟩
        case measure => simp [intOf]; omega
      · gi_wp2
        refine bodyPost_ret (results_none rfl _ _ _) rfl ?_
        exact ⟨⟨_, rfl⟩, .inr ⟨_, trivial, hJx3⟩⟩
    · obtain rfl : k = len := by omega
      gi_wp2
      go_end0
      exact ⟨⟨_, rfl⟩, .inl ⟨_, rfl, hJs⟩⟩

set_option maxHeartbeats 1000000 in
theorem values_in (F : Fence) (n : Nat) (h5 : F.fn 62) (hro : F.round = none) (a : Option Addr) (len cap : Nat) (w : World) :
    CallsIn F n Try.prog 62 #[.slice a len cap] w fun e w' => e = .returned (.func (.func 74) #[] #[.pointer (some ⟨w.heap.size, 0, none⟩)]) ∧ w' = w.alloc (.cells #[.slice a len cap] 56) := by
  refine callsIn_of_wp Try.func62 rfl h5 ?_ hro
  simp only [Try.ntmps62, List.size_toArray, List.length_cons, List.length_nil, Nat.reduceAdd, Nat.reduceSub, Array.replicate_succ, Array.replicate_zero, List.push_toArray, List.append_toArray, List.nil_append, List.cons_append]
  gi_wp2
  go_ret
  exact ⟨rfl, rfl⟩

theorem values_stops (F : Fence) (n : Nat) (h7 : F.fn 74) (hro : F.round = none) (hn : 1 ≤ n) (Bs n₀ b len cap : Nat) (f : Nat → Piece) (hreach : len ≤ 1000000) (w : World) (hBs : Bs < w.heap.size) (hn₀ : n₀ ≤ w.heap.size) (hb : b < n₀)
    (hc : w.cell? ⟨Bs, 0, none⟩ = some (.slice (some ⟨b, 0, none⟩) len cap)) (hI : ∀ j, j < len → w.cell? ⟨b, j, none⟩ = some (.string (Cd.bs (f j).1))) :
    SeqStopsK F n Try.prog 74 #[.pointer (some ⟨Bs, 0, none⟩)] (fun x : Piece => #[Value.string (Cd.bs x.1)]) (Below n₀) (fun ys => ys = upto f len) (fun _ => True) len w := fun l J Jx W hW _ _ hY h0 => by
  have hc' := (hW.cell (p := ⟨Bs, 0, none⟩) hBs).trans hc
  exact values1_in F n h7 hro hn l Bs n₀ b len cap f hreach hb J Jx hY W hc' (fun j hj => (hW.cell (p := ⟨b, j, none⟩) (by show b < _; omega)).trans (hI j hj)) h0

theorem put_join (w1 : World) (p q : Piece) (l : List UInt8) (hq : q.1 = l) :
    Calls Try.prog 43 #[.func (.func 74) #[] #[.pointer (some ⟨w1.heap.size + 1, 0, none⟩)]]
      ((w1.alloc (.cells #[.string (Cd.bs p.1), .string (Cd.bs l)] 9)).alloc (.cells #[.slice (some ⟨w1.heap.size, 0, none⟩) 2 2] 56)) fun e w' =>
      e = .returned (.string (Cd.bs (flat (upto (fun j => if j = 0 then p else q) 2)))) ∧ Below w1.heap.size w1 w' := by
  subst hq
  have hst := values_stops Fence.wide 2 trivial rfl (by omega) (w1.heap.size + 1) (w1.heap.size + 2) w1.heap.size 2 2 (fun j => if j = 0 then p else q) (by omega)
    ((w1.alloc (.cells #[.string (Cd.bs p.1), .string (Cd.bs q.1)] 9)).alloc (.cells #[.slice (some ⟨w1.heap.size, 0, none⟩) 2 2] 56))
    (by simp) (by simp) (by omega) (by go_simp) (by
      intro j hj
      match j, hj with
      | 0, _ => go_simp
      | 1, _ => go_simp)
  have h := join_in Fence.wide 3 trivial rfl (by omega) 74 trivial (enters_of Try.func74 (by kernel_rfl) rfl) #[.pointer (some ⟨w1.heap.size + 1, 0, none⟩)]
    2 (by omega)
    ((w1.alloc (.cells #[.string (Cd.bs p.1), .string (Cd.bs q.1)] 9)).alloc (.cells #[.slice (some ⟨w1.heap.size, 0, none⟩) 2 2] 56)) (by simpa using hst)
  refine (callsIn_wide.1 h).mono ?_
  rintro e w' ⟨ys, rfl, he, hb⟩
  refine ⟨he, ?_⟩
  exact (((Below.refl w1.heap.size w1).alloc (Nat.le_refl _) _).alloc (by simp) _).trans (hb.mono (by simp; omega))

set_option maxRecDepth 100000 in
set_option maxHeartbeats 2000000 in
theorem putTc_any (s : ByteArray) (w : World) (hs : s.size ≤ 1048576) :
    Calls Try.prog 48 #[.string s] w fun e w' => e = .returned (.string (Cd.bs (Cd.putT s.data.toList))) ∧ Below w.heap.size w w' := by
  obtain ⟨l, rfl⟩ : ∃ l, s = Cd.bs l := ⟨s.data.toList, (Lib.mk_data s).symm⟩
  have hl : l.length ≤ 1048576 := hs
  have hU := fun W => putUc_at (l.length : Int) l.length W rfl (by omega)
  have hul := Cd.putU_len10 l.length (by omega)
  have hw : IntKind.u64.wrap (l.length : Int) = l.length := Cd.wrapU_nat (by omega)
  obtain ⟨p, hp⟩ : ∃ p : Piece, p.1 = Cd.putU l.length := ⟨⟨Cd.putU l.length, by omega⟩, rfl⟩
  obtain ⟨q, hq⟩ : ∃ q : Piece, q.1 = l := ⟨⟨l, hl⟩, rfl⟩
  have HE := Lib.hid (show Cd.putT (Cd.bs l).data.toList = flat (upto (fun j => if j = 0 then p else q) 2) by
    simp [upto, List.range, List.range.loop, flat, hp, hq, Cd.putT])
  rw [← hp] at hU
  have HU := Lib.hid hU
  have HQ := Lib.hid hq
  clear hU hp hq hul
  go_enter Try.func48, Try.ntmps48
  go_wp2_with (first
    | (go_at_call 47; refine (HU.out _).mono ?_; rintro e w1 ⟨rfl, hb1⟩)
    | (go_at_call 62; refine (callsIn_wide.1 (values_in Fence.wide 3 trivial rfl _ 2 2 _)).mono ?_; rintro e w' ⟨rfl, rfl⟩)
    | (go_at_call 43; refine (put_join w1 p q l HQ.out).mono ?_; rintro e w3 ⟨rfl, hb3⟩))
  go_ret
  exact ⟨by rw [HE.out]; rfl, hb1.trans (hb3.mono hb1.size)⟩
end Go.Proofs.Ytiijkneomecmiaa

namespace Go.Proofs.Ytiijkneomecmiaa
open Go.RowKit
set_option linter.unusedSimpArgs false
set_option linter.unusedVariables false

set_option maxRecDepth 100000 in
set_option maxHeartbeats 1000000 in
theorem sumr_any (s : ByteArray) (w : World) (hs : s.size ≤ maxLen) :
    Calls Try.prog 71 #[.string s] w fun e w' => e = .returned (.int .u32 (Fr.sum s.data.toList)) ∧ w = w' := by
  unfold maxLen at hs
  go_enter Try.func71, Try.ntmps71
  go_wp2_with fail
  go_loop [3, 4] (fun n i => ∃ k m : Nat, k ≤ s.size ∧ i = .int .i64 k ∧ n = .int .u32 m ∧ m = Fr.run 4294967295 (s.data.toList.take k)) (fun _ i => s.size - (intOf i).toNat)
  case atStart => exact ⟨0, _, Nat.zero_le _, rfl, rfl, rfl⟩
  case round =>
    obtain ⟨k, m, hk, rfl, rfl, hm⟩ := hrel
    have hlt0 : m < 4294967296 := by rw [hm]; exact Fr.run_lt _ (by omega)
    have HM := Lib.hid hm
    have HL := Lib.hid hlt0
    clear hm hlt0
    by_cases hlt : k < s.size
    · have hx := Fr.walk_in HL.out s[k]
      have hw := Fr.wrap32_byte s[k]
      have HT := Lib.hid (Cd.take_s s k hlt)
      go_wp2_with fail
      clear hw
      go_loop [3, 5] (fun n j => ∃ i q : Nat, i ≤ 8 ∧ j = .int .i64 i ∧ n = .int .u32 q ∧ q = Fr.steps i (m ^^^ s[k].toNat)) (fun _ j => 8 - (intOf j).toNat)
      case atStart => exact ⟨0, _, Nat.zero_le _, rfl, by first | rfl | rw [hx], rfl⟩
      case round =>
        obtain ⟨i, q, hi, rfl, rfl, hq⟩ := hrel
        have hlq : q < 4294967296 := by rw [hq]; exact Fr.steps_lt (Fr.xor_lt32 HL.out (by have := s[k].toNat_lt; omega)) _
        have HQ := Lib.hid hq
        have HLQ := Lib.hid hlq
        clear hq hlq hx
        by_cases h8 : i < 8
        · by_cases ho : q % 2 = 1
          · have hob : (((q : Int) % 2) == 1) = true := by simp; omega
            have hs1 := Fr.walk_odd HLQ.out ho
            go_wp2
            go_round
            case rel => exact ⟨i + 1, Fr.step q, by omega, by go_num, by first | rfl | rw [hs1], by rw [HQ.out]; rfl⟩
            case measure => simp [intOf]; omega
          · have hob : (((q : Int) % 2) == 1) = false := by simp; omega
            have HO := Lib.hid ho
            clear ho
            go_wp2
            go_round
            case rel => exact ⟨i + 1, Fr.step q, by omega, by go_num, by rw [← Fr.walk_even HLQ.out HO.out], by rw [HQ.out]; rfl⟩
            case measure => simp [intOf]; omega
        · obtain rfl : i = 8 := by omega
          go_wp2
          go_round
          case rel => exact ⟨k + 1, q, by omega, by go_num, rfl, by rw [HT.out, Fr.run_snoc, ← HM.out]; exact HQ.out⟩
          case measure => simp [intOf]; omega
    · obtain rfl : k = s.size := by omega
      go_wp2
      go_ret
      exact ⟨by rw [Fr.sum, ← Cd.take_all s, ← HM.out, ← Fr.walk_out HL.out]; rfl, rfl⟩

/-- the world of a row of four bytes, written one by one -/
def Row4 (w : World) (g : Nat) (l : List UInt8) : Prop := ∀ j, j < 4 → w.cell? ⟨g, j, none⟩ = some (.int .u8 ((l.getD j 0).toNat : Int)) ∧ w.frozen? ⟨g, j, none⟩ = false
theorem Row4.store {w : World} {g n k : Nat} {x : Value} (h : Row4 w g (Fr.litPart n k)) (hk : k < 4) (hx : x = .int .u8 ((Fr.litByte n k).toNat : Int)) :
    Row4 (w.setCell ⟨g, k, none⟩ x) g (Fr.litPart n (k + 1)) := by
  intro j hj
  rw [World.frozen?_setCell]
  refine ⟨?_, (h j hj).2⟩
  rw [Fr.litPart_get _ _ _ hj]
  by_cases hjk : j = k
  · subst hjk
    rw [World.cell?_setCell_same (h := (h j hj).1), hx, if_pos (by omega)]
  · rw [World.cell?_setCell_other (h := by simp only [ne_eq, Addr.mk.injEq, true_and, and_true]; omega), (h j hj).1, Fr.litPart_get _ _ _ hj]
    by_cases h1 : j < k
    · rw [if_pos h1, if_pos (by omega)]
    · rw [if_neg h1, if_neg (by omega)]
theorem Row4.conv {w : World} {g c : Nat} {l : List UInt8} (h : Row4 w g l) (hl : l.length = 4) : (convert 48 9 (.slice (some ⟨g, 0, none⟩) 4 c)).run Try.prog w = .ok (.string (Cd.bs l)) w := by
  have := run_convert_bytes_back (P := Try.prog) w 48 9 5 ⟨g, 0, none⟩ c l Try.underlying48 Try.underlying5 Try.underlying9 (fun j hj => by
    have := (h j (by omega)).1
    rw [List.getD_eq_getElem?_getD, List.getElem?_eq_getElem hj] at this
    have hp : (⟨g, 0, none⟩ : Addr).add j = ⟨g, j, none⟩ := by unfold Addr.add; split <;> simp_all
    rw [hp]; simpa using this)
  rwa [hl] at this
theorem Row4.new (w : World) (n : Nat) (T : TypeId) : Row4 (w.alloc (.cells #[.int .u8 0, .int .u8 0, .int .u8 0, .int .u8 0] T)) w.heap.size (Fr.litPart n 0) := by
  intro j hj
  rw [Fr.litPart_zero]
  match j, hj with
  | 0, _ => exact ⟨by go_simp, by go_simp⟩
  | 1, _ => exact ⟨by go_simp, by go_simp⟩
  | 2, _ => exact ⟨by go_simp, by go_simp⟩
  | 3, _ => exact ⟨by go_simp, by go_simp⟩

set_option maxRecDepth 100000 in
set_option maxHeartbeats 1000000 in
theorem littler_any (N : Int) (n : Nat) (w : World) (hN : N = n) (h1 : n < 4294967296) :
    Calls Try.prog 42 #[.int .u32 N] w fun e w' => e = .returned (.string (Cd.bs (Fr.lit n))) ∧ Below w.heap.size w w' := by
  have hmk : ∀ w, (Instr.makeSlice 48 (.int .i64 4) (.int .i64 4)).run Try.prog w = .ok (.slice (some ⟨w.heap.size, 0, none⟩) 4 4) (w.alloc (.cells #[.int .u8 0, .int .u8 0, .int .u8 0, .int .u8 0] 5)) := fun _ => by kernel_rfl
  subst hN
  have HN := Lib.hid h1
  clear h1
  go_enter Try.func42, Try.ntmps42
  go_wp2_with fail
  go_loopw [0, 4] (fun u i wr => ∃ (k m : Nat), k ≤ 4 ∧ i = .int .i64 k ∧ u = .int .u32 m ∧ m = n / 256 ^ k ∧ Row4 wr w.heap.size (Fr.litPart n k) ∧ Below w.heap.size w wr) (fun _ i _ => 4 - (intOf i).toNat)
  case atStart => exact ⟨0, n, Nat.zero_le _, rfl, rfl, by simp, Row4.new _ _ _, (Below.refl _ _).alloc (Nat.le_refl _) _⟩
  case round =>
    obtain ⟨k, m, hk, rfl, rfl, hm, hr, hb⟩ := hrel
    have HM := Lib.hid hm
    clear hm
    by_cases hk4 : k < 4
    · have hc := (hr k hk4).1
      have hf := (hr k hk4).2
      have HR := Lib.hid hr
      clear hr
      go_wp2
      go_roundw
      case rel => exact ⟨k + 1, m / 256, by omega, by go_num, by rw [Fr.lit_wrap n k m HN.out HM.out], Fr.lit_down n k m HM.out, HR.out.store hk4 (Fr.litByte_val n k m HM.out), hb.setCell (p := ⟨w.heap.size, k, none⟩) (Nat.le_refl _) _⟩
      case measure => simp [intOf]; omega
    · obtain rfl : k = 4 := by omega
      have hcv := hr.conv (c := 4) (Fr.litPart_len _ _)
      go_wp2
      go_ret
      exact ⟨by rw [Fr.litPart_done]; rfl, hb⟩
end Go.Proofs.Ytiijkneomecmiaa

namespace Go.Proofs.Ytiijkneomecmiaa
open Go.RowKit
set_option linter.unusedSimpArgs false
set_option linter.unusedVariables false

/-- string(b) of one byte that lies in a cell -/
theorem conv_cell (W : World) (g : Nat) (x : Int) (c : UInt8) (hx : x = (c.toNat : Int)) (h : W.cell? ⟨g, 0, none⟩ = some (.int .u8 x)) :
    (convert 48 9 (.slice (some ⟨g, 0, none⟩) 1 1)).run Try.prog W = .ok (.string (Cd.bs [c])) W := by
  have := run_convert_bytes_back (P := Try.prog) W 48 9 5 ⟨g, 0, none⟩ 1 [c] Try.underlying48 Try.underlying5 Try.underlying9 (fun j hj => by
    simp at hj; subst hj
    rw [show (⟨g, 0, none⟩ : Addr).add 0 = ⟨g, 0, none⟩ from by simp [Addr.add], h, hx]; rfl)
  simpa using this

theorem bcell {W w1 : World} (hb : Below W.heap.size W w1) : (∀ b o, b < W.heap.size → w1.cell? ⟨b, o, none⟩ = W.cell? ⟨b, o, none⟩) ∧ (∀ b o, b < W.heap.size → w1.frozen? ⟨b, o, none⟩ = W.frozen? ⟨b, o, none⟩) :=
  ⟨fun b o h => hb.cell (p := ⟨b, o, none⟩) h, fun b o h => hb.frozen (p := ⟨b, o, none⟩) h⟩

set_option maxRecDepth 100000 in
set_option maxHeartbeats 1000000 in
theorem framePutr_any (K : Int) (c : UInt8) (hK : K = (c.toNat : Int)) (l : List UInt8) (w : World) (hs : l.length ≤ 140737488351232) :
    Calls Try.prog 57 #[.agg #[.int .u8 K, .string (Cd.bs l)]] w fun e w' => e = .returned (.tuple #[.string (Cd.bs (Fr.put c l).1), .int .i64 (Fr.put c l).2]) ∧ Below w.heap.size w w' := by
  have hsz : (Cd.bs l).size = l.length := rfl
  have HSZ := Lib.hid hsz
  clear hsz
  by_cases h0 : c.toNat = 0
  · have hb : (K == 0) = true := by subst hK; simp [h0]
    rw [Fr.put_zero h0]
    clear hK h0
    go_enter Try.func57, Try.ntmps57
    go_wp2
    go_ret2
    exact ⟨rfl, (Below.refl _ _).alloc (Nat.le_refl _) _⟩
  · have hb : (K == 0) = false := by subst hK; simp; omega
    by_cases hl : l.length ≤ 262144
    · rw [Fr.put_ok h0 hl]
      have HK := Lib.hid hK
      have hcv := fun W g h => conv_cell W g K c hK h
      clear hK h0
      have hT := fun W => putTr_any (Cd.bs l) W (by rw [HSZ.out]; omega)
      have HT := Lib.hid hT
      clear hT
      have hlen : (Cd.putT l).length ≤ 262154 := by have := Cd.putU_len10 l.length (by omega); rw [Cd.putT, List.length_append]; omega
      go_enter Try.func57, Try.ntmps57
      go_wp2_with fail
      go_cut [4] (fun r wx => r = .string (Cd.bs (c :: Cd.putT l)) ∧ Below w.heap.size w wx)
      case first =>
        go_region_with (go_at_call 39; refine (HT.out _).mono ?_; rintro e w1 ⟨rfl, hb1⟩; obtain ⟨hkc, hkf⟩ := bcell hb1; have hsz1 := hb1.size; simp at hsz1)
        all_goals (try go_wp2_with fail)
        all_goals go_meet
        all_goals refine ⟨by rw [ByteArray.mk_append_mk]; rfl, ?_⟩
        all_goals repeat (first
          | exact Below.refl _ _
          | (refine Below.trans ?_ (hb1.mono ?_))
          | apply Below.drew
          | (refine Below.alloc ?_ ?_ _)
          | exact Nat.le_refl _
          | omega
          | (focus (simp; done))
          | (focus (simp; omega)))
      case rest =>
        obtain ⟨rfl, hbc⟩ := hcut
        have hS := fun W => sumr_any (Cd.bs (c :: Cd.putT l)) W (by show (c :: Cd.putT l).length ≤ maxLen; unfold maxLen; rw [List.length_cons]; omega)
        have HS := Lib.hid hS
        have HL := Lib.hid (fun W => littler_any (Fr.sum (c :: Cd.putT l) : Int) (Fr.sum (c :: Cd.putT l)) W rfl (Fr.sum_lt _))
        clear hS hcv
        have hll : (Fr.lit (Fr.sum (c :: Cd.putT l))).length ≤ 4 := by rw [Fr.lit_len]; omega
        have hsl : (Cd.bs (c :: Cd.putT l)).size ≤ 262155 := by show (c :: Cd.putT l).length ≤ 262155; rw [List.length_cons]; omega
        go_wp2_with (first
          | (go_at_call 71; refine (HS.out _).mono ?_; rintro e w' ⟨rfl, rfl⟩)
          | (go_at_call 42; refine (HL.out _).mono ?_; rintro e w3 ⟨rfl, hb3⟩))
        go_ret2
        exact ⟨by rw [ByteArray.mk_append_mk]; rfl, hbc.trans (hb3.mono hbc.size)⟩
    · have hlb : (262144 : Int) < l.length := by omega
      rw [Fr.put_long (by omega)]
      clear hK h0
      go_enter Try.func57, Try.ntmps57
      go_wp2
      go_ret2
      exact ⟨rfl, (Below.refl _ _).alloc (Nat.le_refl _) _⟩
end Go.Proofs.Ytiijkneomecmiaa
