/-
  Ranges over a function whose iterator has state of its own, in cells and in loops within it: what an iterator owes, what its caller owes.
  The blocks that are private to the iterator (and to the loop's book-keeping) are told by name: a set R that grows.
-/
import Derived.RangeFuncNested
import Derived.RangeFuncLeaves
import Derived.RangeFuncBox
import Derived.Below
import Derived.Deep.Draws
namespace Go.Proofs.YtghggkopbkhfpaaGreat
open Go.RowKit
set_option linter.unusedVariables false
namespace Sq

abbrev Blocks := Nat → Prop

/-- of the blocks of T that lay none has turned -/
structure Kept (T : Blocks) (w w' : World) : Prop where
  os : w'.os = w.os
  tape : w'.tape = w.tape
  output : w'.output = w.output
  size : w.heap.size ≤ w'.heap.size
  block : ∀ k, T k → k < w.heap.size → w'.heap[k]? = w.heap[k]?

theorem Kept.refl (T : Blocks) (w : World) : Kept T w w := ⟨rfl, rfl, rfl, Nat.le_refl _, fun _ _ _ => rfl⟩
theorem Kept.trans {T : Blocks} {a b c : World} (h : Kept T a b) (k : Kept T b c) : Kept T a c :=
  ⟨k.os.trans h.os, k.tape.trans h.tape, k.output.trans h.output, Nat.le_trans h.size k.size, fun i hi hl => (k.block i hi (Nat.lt_of_lt_of_le hl h.size)).trans (h.block i hi hl)⟩
theorem Kept.less {T T' : Blocks} {a b : World} (h : Kept T a b) (hT : ∀ k, T' k → k < a.heap.size → T k) : Kept T' a b :=
  ⟨h.os, h.tape, h.output, h.size, fun i hi hl => h.block i (hT i hi hl) hl⟩
theorem Kept.alloc (T : Blocks) (w : World) (o : Obj) : Kept T w (w.alloc o) :=
  ⟨rfl, rfl, rfl, by simp, fun k _ hl => Below.heap_alloc _ _ _ hl⟩
theorem Kept.drew (T : Blocks) (w : World) : Kept T w w.drew := ⟨rfl, rfl, rfl, Nat.le_refl _, fun _ _ _ => rfl⟩
theorem Kept.drewN (T : Blocks) (w : World) (n : Nat) : Kept T w (w.drewN n) := ⟨rfl, rfl, rfl, Nat.le_refl _, fun _ _ _ => rfl⟩
theorem Kept.setCell {T : Blocks} (w : World) {p : Addr} (v : Value) (h : ¬ T p.block) : Kept T w (w.setCell p v) :=
  ⟨rfl, rfl, rfl, by simp [World.setCell], fun k hk _ => Below.heap_setCell _ _ _ _ (fun e => h (e ▸ hk))⟩
theorem Kept.putObj {T : Blocks} (w : World) {l : Nat} (o : Obj) (h : ¬ T l) : Kept T w (w.putObj l o) :=
  ⟨rfl, rfl, rfl, by simp, fun k hk _ => World.putObj_heap_other (fun e => h (e ▸ hk))⟩
theorem Kept.grown {T : Blocks} {w w' : World} {row : Option Nat} (hg : w.grownBy w' row) (h : ∀ r, row = some r → ¬ T r) : Kept T w w' :=
  ⟨hg.os, hg.tape, hg.output, hg.size, fun k hk hl => hg.block k hl (fun e => h k e.symm hk)⟩
theorem Kept.of_below {T : Blocks} {w w' : World} (h : Below w.heap.size w w') : Kept T w w' :=
  ⟨h.os, h.tape, h.output, h.size, fun k _ hl => h.block k hl⟩
theorem Kept.below {T : Blocks} {w w' : World} {B : Nat} (h : Kept T w w') (hT : ∀ k, k < B → T k) (hB : B ≤ w.heap.size) : Below B w w' :=
  ⟨h.os, h.tape, h.output, h.size, fun k hk => h.block k (hT k hk) (Nat.lt_of_lt_of_le hk hB)⟩
theorem Kept.cell {T : Blocks} {w w' : World} (h : Kept T w w') {p : Addr} {v : Value} (hT : T p.block) (hc : w.cell? p = some v) : w'.cell? p = some v := by
  have hl : p.block < w.heap.size := by
    obtain ⟨o, ho, _⟩ := cells_of_cell hc
    exact (Array.getElem?_eq_some_iff.1 ho).1
  rw [← hc]
  exact World.cell?_of_block (w := w) (h.block _ hT hl)
theorem Kept.boxed {T : Blocks} {w w' : World} (h : Kept T w w') {B : Nat} {t : TypeId} {v : Value} (hT : T B) (hb : Boxed w B t v) : Boxed w' B t v := (h.block B hT hb.lt).trans hb

/-- A STEP OF THE ITERATOR's OWN: of what lay only blocks of R have turned; R' is R and new blocks. -/
structure Step (R R' : Blocks) (w w' : World) : Prop where
  kept : Kept (fun k => ¬ R k) w w'
  sub : ∀ k, R k → R' k
  new : ∀ k, R' k → R k ∨ w.heap.size ≤ k

theorem Step.refl (R : Blocks) (w : World) : Step R R w w := ⟨Kept.refl _ _, fun _ h => h, fun _ h => .inl h⟩
theorem Step.alloc (R : Blocks) (w : World) (o : Obj) : Step R (fun k => R k ∨ k = w.heap.size) w (w.alloc o) :=
  ⟨Kept.alloc _ _ _, fun _ h => .inl h, fun _ h => h.elim .inl (fun e => .inr (Nat.le_of_eq e.symm))⟩
theorem Step.alloc0 (R : Blocks) (w : World) (o : Obj) : Step R R w (w.alloc o) := ⟨Kept.alloc _ _ _, fun _ h => h, fun _ h => .inl h⟩
theorem Step.below {R : Blocks} {w w' : World} (h : Below w.heap.size w w') : Step R R w w' := ⟨Kept.of_below h, fun _ h => h, fun _ h => .inl h⟩
theorem Step.setCell {R : Blocks} (w : World) {p : Addr} (v : Value) (h : R p.block) : Step R R w (w.setCell p v) := ⟨Kept.setCell _ _ (fun hn => hn h), fun _ h => h, fun _ h => .inl h⟩
theorem Step.putObj {R : Blocks} (w : World) {l : Nat} (o : Obj) (h : R l) : Step R R w (w.putObj l o) := ⟨Kept.putObj _ _ (fun hn => hn h), fun _ h => h, fun _ h => .inl h⟩
theorem Step.drew (R : Blocks) (w : World) : Step R R w w.drew := ⟨Kept.drew _ _, fun _ h => h, fun _ h => .inl h⟩
theorem Step.trans {R R' R'' : Blocks} {a b c : World} (h : Step R R' a b) (k : Step R' R'' b c) : Step R R'' a c :=
  ⟨⟨k.kept.os.trans h.kept.os, k.kept.tape.trans h.kept.tape, k.kept.output.trans h.kept.output, Nat.le_trans h.kept.size k.kept.size, fun i hi hl =>
      (k.kept.block i (fun hr => (h.new i hr).elim hi (fun h2 => by omega)) (Nat.lt_of_lt_of_le hl h.kept.size)).trans (h.kept.block i hi hl)⟩,
    fun i hi => k.sub i (h.sub i hi), fun i hi => (k.new i hi).elim (h.new i) (fun hl => .inr (Nat.le_trans h.kept.size hl))⟩

/-- what the caller says abides every step of the iterator's own -/
def Steady {β : Type} (J : Blocks → β → World → Prop) : Prop := ∀ R R' s W W', J R s W → Step R R' W W' → J R' s W'

theorem Steady.and {β : Type} {J J' : Blocks → β → World → Prop} (h : Steady J) (h' : Steady J') : Steady (fun R s W => J R s W ∧ J' R s W) :=
  fun R R' s W W' hs st => ⟨h R R' s W W' hs.1 st, h' R R' s W W' hs.2 st⟩
theorem Steady.ex {β γ : Type} {J : γ → Blocks → β → World → Prop} (h : ∀ c, Steady (J c)) : Steady (fun R s W => ∃ c, J c R s W) :=
  fun R R' s W W' ⟨c, hs⟩ st => ⟨c, h c R R' s W W' hs st⟩
theorem Steady.pure {β : Type} (p : β → Prop) : Steady (fun _ s (_ : World) => p s) := fun _ _ _ _ _ hs _ => hs
theorem Steady.no {β : Type} : Steady (fun _ (_ : β) (_ : World) => False) := fun _ _ _ _ _ hs _ => hs
theorem step_not {R R' : Blocks} {W W' : World} (st : Step R R' W W') {b : Nat} (hl : b < W.heap.size) (hn : ¬ R b) : ¬ R' b :=
  fun h => (st.new b h).elim hn (fun h2 => by omega)
theorem step_obj {R R' : Blocks} {W W' : World} (st : Step R R' W W') {b : Nat} {o : Obj} (ho : W.heap[b]? = some o) (hn : ¬ R b) : W'.heap[b]? = some o ∧ ¬ R' b :=
  ⟨(st.kept.block b hn (Array.getElem?_eq_some_iff.1 ho).1).trans ho, step_not st (Array.getElem?_eq_some_iff.1 ho).1 hn⟩
theorem Steady.obj {β : Type} (b : Nat) (o : β → Obj) : Steady (fun R s W => W.heap[b]? = some (o s) ∧ ¬ R b) := fun _ _ _ _ _ hs st => step_obj st hs.1 hs.2
theorem Steady.box {β : Type} (b : Nat) (t : TypeId) (v : β → Value) : Steady (fun R s W => Boxed W b t (v s) ∧ ¬ R b) := fun _ _ _ _ _ hs st => step_obj st hs.1 hs.2
theorem Steady.kept {β : Type} (T : Blocks) (w : World) : Steady (fun R (_ : β) W => Kept T w W ∧ ∀ k, T k → k < w.heap.size → ¬ R k) := fun R R' s W W' hs st =>
  ⟨⟨st.kept.os.trans hs.1.os, st.kept.tape.trans hs.1.tape, st.kept.output.trans hs.1.output, Nat.le_trans hs.1.size st.kept.size, fun k hk hl =>
      (st.kept.block k (hs.2 k hk hl) (Nat.lt_of_lt_of_le hl hs.1.size)).trans (hs.1.block k hk hl)⟩,
    fun k hk hl hr => step_not st (Nat.lt_of_lt_of_le hl hs.1.size) (hs.2 k hk hl) hr⟩
theorem Steady.row {β : Type} (n₀ : Nat) (e : TypeId) (size : Nat) (v : β → Value) (n : β → Nat) (f : β → List Value) :
    Steady (fun R s W => W.ownsRow n₀ e size (v s) (n s) (f s) ∧ ∀ g, (v s).ownBlock = some g → ¬ R g) := by
  rintro R R' s W W' ⟨hs, hn⟩ st
  rcases hs with ⟨h0, h1 | ⟨g, cap, cur, h1, h2, h3, h4⟩⟩
  · exact ⟨⟨h0, .inl h1⟩, fun g hg => by rw [h1.1] at hg; simp [Value.ownBlock] at hg⟩
  · have hg : ¬ R g := hn g (by rw [h1]; rfl)
    obtain ⟨k1, k2⟩ := step_obj st h3 hg
    refine ⟨⟨h0, .inr ⟨g, cap, cur, h1, h2, k1, h4⟩⟩, fun g' hg' => ?_⟩
    rw [h1] at hg'
    obtain rfl : g = g' := by simpa [Value.ownBlock] using hg'
    exact k2

theorem Step.or {R R' : Blocks} {X Y : World} (M : Blocks) (st : Step R R' X Y) : Step (fun k => R k ∨ M k) (fun k => R' k ∨ M k) X Y :=
  ⟨st.kept.less fun k hk _ h => hk (.inl h), fun k h => h.elim (fun h => .inl (st.sub k h)) .inr, fun k h => h.elim (fun h => (st.new k h).elim (fun h => .inl (.inl h)) .inr) (fun h => .inl (.inr h))⟩
theorem Steady.or {β γ : Type} {J : Blocks → β → World → Prop} (h : Steady J) (M : Blocks) (f : γ → β) : Steady (fun R s W => J (fun k => R k ∨ M k) (f s) W) :=
  fun _ _ _ _ _ hs st => h _ _ _ _ _ hs (st.or M)

theorem room_none {F : Fence} (hd : F.depth = none) (k : Nat) : F.room k := fun d h => by rw [hd] at h; cases h
/-- where no depth is asked the figures are all one -/
theorem anyDepth {F : Fence} (hd : F.depth = none) {m : Nat} (m' : Nat) {P : Program} {l : Nat} {args : Array Value} {W : World} {R : Ending → World → Prop} (h : YieldAt F m P l args W R) : YieldAt F m' P l args W R := by
  obtain ⟨fn, tmps, assign, body, hy, hR⟩ := h
  exact ⟨fn, tmps, assign, body, hy, hR.1, fun c cs _ => hR.2 c cs (room_none hd _)⟩

theorem round_in {F : Fence} {m : Nat} {P : Program} {l f : Nat} {tmps : Array Value} {assign body : Code} {w : World} {R : Ending → World → Prop} (lr : Nat) (h : RoundIn F m P l f tmps assign body w R) : RoundIn (F.inRound lr) m P l f tmps assign body w R := h

/-- WHAT AN ITERATOR OWES: called at whatever loop's yield, it hands on a row's elements one by one: S of all, Sp of each beginning. T: the blocks that it reads and does not write. -/
def SeqC {α : Type} (F : Fence) (n : Nat) (P : Program) (g : Nat) (lb : Array Value) (encs : α → Array Value) (T : Blocks) (S Sp : List α → Prop) (w : World) : Prop :=
  ∀ (l : Nat) (J Jx : Blocks → List α → World → Prop) (W : World), Kept T w W → Steady J → Steady Jx →
    (∀ R pre x W1, J R pre W1 → (∀ k, R k → W.heap.size ≤ k ∧ k < W1.heap.size) → Sp (pre ++ [x]) → YieldAt F (n - 1) P l (encs x) W1 fun e W' =>
      (e = .returned (.bool true) ∧ J R (pre ++ [x]) W' ∧ Kept (fun k => R k ∨ T k) W1 W') ∨ (e = .returned (.bool false) ∧ Jx R (pre ++ [x]) W' ∧ Kept (fun k => R k ∨ T k) W1 W')) →
    J (fun _ => False) [] W →
    CallsIn F n P g (#[.func (.yield l) #[] #[]] ++ lb) W fun e W' => (∃ v, e = .returned v) ∧ ((∃ xs R, S xs ∧ J R xs W') ∨ (∃ pre R, Sp pre ∧ Jx R pre W'))

/-- HOW THE BODY OF A ROUND MAY BE LEFT. -/
def post {α : Type} (T : Blocks) (I : Blocks → List α → World → Prop) (Ix : Code → Blocks → List α → World → Prop) (R : Blocks) (xs : List α) (W : World) : Exit → Act → World → Prop
  | .normal, _, W' => Kept (fun k => R k ∨ T k) W W' ∧ I R xs W'
  | .ret, _, W' => Kept (fun k => R k ∨ T k) W W' ∧ Ix .ret R xs W'
  | .exit id, _, W' => Kept (fun k => R k ∨ T k) W W' ∧ Ix (.exit id) R xs W'
  | .goto t, _, W' => Kept (fun k => R k ∨ T k) W W' ∧ Ix (.goto t) R xs W'
  | .panic _, _, _ => False
  | .outgrown, _, _ => False

variable {F : Fence} {n : Nat} {P : Program}

/-- THE STATEMENT 'for .. := range seq { body }', outside of every other such loop's round. -/
theorem wp_range {α : Type} {g : Operand} {ps : Array Tmp} {assign body : Code} {Q : Exit → Act → World → Prop} {a : Act} {w : World}
    (hro : F.round = none) (h1 : 1 ≤ n) {gf : Nat} {lb : Array Value} (hg : a.eval g = .func (.func gf) #[] lb) (hFg : F.fn gf) (eg : ∀ args w, (callFunc gf args).run P w = .ok (.enter gf args) w)
    {encs : α → Array Value} {T : Blocks} {S Sp : List α → Prop} (hseq : SeqC F (n - 1) P gf lb encs T S Sp w) (hT : ∀ k, T k → k < w.heap.size) (hps : ∀ x, (encs x).size = ps.size)
    (I : Blocks → List α → World → Prop) (Ix : Code → Blocks → List α → World → Prop) (Ia : Act → α → Blocks → List α → World → Prop)
    (hI : Steady I) (hIx : ∀ c, Steady (Ix c)) (hIa : ∀ a' x, Steady (Ia a' x)) (h0 : I (fun _ => False) [] w)
    (hassign : ∀ (l : Nat) (R : Blocks) (pre : List α) (x : α) (W : World), (∀ k, R k → w.heap.size ≤ k ∧ k < W.heap.size) → Sp (pre ++ [x]) → I R pre W →
      assign.wpIn (F.inRound l) (n - 1 - 1) P (Exit.then (fun a' W' => Kept (fun k => R k ∨ T k) W W' ∧ Ia a' x R pre W') (fun _ _ _ => False)) { tmps := (ps.zip (encs x)).foldl (fun t (p, v) => t.setIfInBounds p v) a.tmps, defers := [] } W)
    (hbody : ∀ (l : Nat) (R : Blocks) (pre : List α) (x : α) (a' : Act) (W : World), R l → (∃ r, W.heap[l]? = some (.loop r)) → (∀ k, R k → w.heap.size ≤ k ∧ k < W.heap.size) → Sp (pre ++ [x]) → Ia a' x R pre W →
      body.wpIn (F.inRound l) (n - 1 - 1) P (post T I Ix R (pre ++ [x]) W) a' W)
    (hdone : ∀ (D : Nat) (R : Blocks) (xs : List α) (W : World), w.heap.size ≤ D → R D → S xs → I R xs W → W.heap[D]? = some (.deferred (some [])) → Q .normal { a with defers := { target := .collected D, args := #[] } :: a.defers } W)
    (hstop : ∀ (D : Nat) (R : Blocks) (c : Code) (pre : List α) (W : World), w.heap.size ≤ D → R D → Sp pre → Ix c R pre W → W.heap[D]? = some (.deferred (some [])) → c.wpIn F n P Q { a with defers := { target := .collected D, args := #[] } :: a.defers } W) :
    (Code.rangeFunc g ps assign body).wpIn F n P Q a w := by
  refine wpIn_rangeFunc ?_
  intro fn hfn
  rw [hro]
  obtain ⟨rec, hrec⟩ : ∃ rec : LoopState → Option Code → Loop, rec = fun st pe => { state := st, pending := pe, fn, tmps := a.tmps, params := ps, assign, body, defers := w.heap.size } := ⟨_, rfl⟩
  obtain ⟨D, hD⟩ : ∃ D, D = w.heap.size := ⟨_, rfl⟩
  obtain ⟨W1, hW1⟩ : ∃ W1, (w.alloc (.deferred (some []))).alloc (.loop (rec .ready none)) = W1 := ⟨_, rfl⟩
  have hsz1 : W1.heap.size = D + 2 := by rw [← hW1]; simp; omega
  -- the blocks of the book-keeping beside those of the iterator's
  let R2 : Blocks → Blocks := fun R k => R k ∨ (k = D ∨ k = D + 1)
  have st0 : Step (fun _ => False) (R2 fun _ => False) w W1 := by
    rw [← hW1]
    refine ⟨(Kept.alloc _ _ _).trans (Kept.alloc _ _ _), fun _ h => h.elim, fun k h => ?_⟩
    rcases h with h | h | h
    · exact h.elim
    · exact .inr (by omega)
    · exact .inr (by omega)
  have hL1 : W1.heap[D + 1]? = some (.loop (rec .ready none)) := by
    rw [← hW1]; have := World.alloc_heap_new (w.alloc (.deferred (some []))) (.loop (rec .ready none)); rw [World.size_alloc, ← hD] at this; exact this
  have hK1 : W1.heap[D]? = some (.deferred (some [])) := by
    rw [← hW1, hD]; exact (Below.heap_alloc _ _ _ (by simp)).trans (World.alloc_heap_new w _)
  have hkT : Kept T w W1 := by rw [← hW1]; exact (Kept.alloc _ _ _).trans (Kept.alloc _ _ _)
  have step2 : ∀ {R R' : Blocks} {X Y : World}, Step R R' X Y → Step (R2 R) (R2 R') X Y := fun st =>
    ⟨st.kept.less fun k hk _ h => hk (.inl h), fun k h => h.elim (fun h => .inl (st.sub k h)) .inr, fun k h => h.elim (fun h => (st.new k h).elim (fun h => .inl (.inl h)) .inr) (fun h => .inl (.inr h))⟩
  refine ⟨D + 1, [{ target := .collected D, args := #[] }], W1, { target := .fn (.func gf) lb, args := #[.func (.yield (D + 1)) #[] #[]] }, W1, gf,
    #[.func (.yield (D + 1)) #[] #[]] ++ lb, W1, ?_, ?_, ?_, ?_, fun _ => h1, ?_⟩
  · rw [← hW1, hrec, hD]; exact run_enterLoop_outer _ _ _ _ _
  · simp only [resolve, hg]
    simp [go_sem]
  · intro f' hf'; simp [Target.leads] at hf'; subst hf'; exact hFg
  · simp [invoke, go_sem, eg]
  · refine (hseq (D + 1)
      (fun R pre W => I (R2 R) pre W ∧ (W.heap[D + 1]? = some (.loop (rec .ready none)) ∧ ¬ R (D + 1)) ∧ (W.heap[D]? = some (.deferred (some [])) ∧ ¬ R D))
      (fun R pre W => ∃ c, Ix c (R2 R) pre W ∧ (W.heap[D + 1]? = some (.loop (rec .done (some c))) ∧ ¬ R (D + 1)) ∧ (W.heap[D]? = some (.deferred (some [])) ∧ ¬ R D))
      W1 hkT
      (fun R R' s X Y hs st => ⟨hI _ _ _ _ _ hs.1 (step2 st), step_obj st hs.2.1.1 hs.2.1.2, step_obj st hs.2.2.1 hs.2.2.2⟩)
      (fun R R' s X Y ⟨c, hs⟩ st => ⟨c, hIx c _ _ _ _ _ hs.1 (step2 st), step_obj st hs.2.1.1 hs.2.1.2, step_obj st hs.2.2.1 hs.2.2.2⟩)
      ?_ ⟨hI _ _ _ _ _ h0 st0, ⟨hL1, fun h => h⟩, ⟨hK1, fun h => h⟩⟩).mono ?_
    · -- one round
      rintro R pre x W ⟨hi, ⟨hl, hnl⟩, ⟨hk, hnk⟩⟩ hbd hsp
      have hlt : D + 1 < W.heap.size := (Array.getElem?_eq_some_iff.1 hl).1
      have hbd2 : ∀ (X : World), W.heap.size ≤ X.heap.size → ∀ k, R2 R k → w.heap.size ≤ k ∧ k < X.heap.size := fun X hX k h => by
        rcases h with h | h | h
        · have := hbd k h; omega
        · omega
        · omega
      have hy := run_yield (P := P) (args := encs x) hl (by rw [hrec]; exact hps x)
      rw [hrec] at hy
      refine ⟨fn, _, assign, body, hy, roundIn_of_wpIn hfn ?_⟩
      clear hy
      refine wpIn_mono (hassign (D + 1) (R2 R) pre x W (hbd2 W (Nat.le_refl _)) hsp hi) ?_
      rintro e a' Wa hpost
      cases e with
      | normal =>
        obtain ⟨hka, hia⟩ := hpost
        have hla : Wa.heap[D + 1]? = some (.loop (rec .ready none)) := (hka.block (D + 1) (.inl (.inr (.inr rfl))) hlt).trans hl
        have hka2 : Wa.heap[D]? = some (.deferred (some [])) := (hka.block D (.inl (.inr (.inl rfl))) (by omega)).trans hk
        have hlta : D + 1 < Wa.heap.size := (Array.getElem?_eq_some_iff.1 hla).1
        refine ⟨_, run_beginRound hla (by rw [hrec]), ?_⟩
        obtain ⟨Wb, hWb⟩ : ∃ Wb, Wa.putObj (D + 1) (.loop { rec .ready none with state := .busy }) = Wb := ⟨_, rfl⟩
        have hlb : Wb.heap[D + 1]? = some (.loop { rec .ready none with state := .busy }) := by rw [← hWb]; exact World.putObj_heap_same hlta
        have hkb : Wb.heap[D]? = some (.deferred (some [])) := by rw [← hWb]; exact (World.putObj_heap_other (by omega)).trans hka2
        have hszb : Wb.heap.size = Wa.heap.size := by rw [← hWb]; simp
        have keptb : ∀ T' : Blocks, ¬ T' (D + 1) → Kept T' Wa Wb := fun T' h => by rw [← hWb]; exact Kept.putObj _ _ h
        have hib := hIa a' x _ _ _ _ _ hia (show Step (R2 R) (R2 R) Wa Wb by rw [← hWb]; exact Step.putObj (R := R2 R) Wa _ (.inr (.inr rfl)))
        have hbody' := hbody (D + 1) (R2 R) pre x a' Wb (.inr (.inr rfl)) ⟨_, hlb⟩ (hbd2 Wb (by rw [hszb]; exact hka.size)) hsp hib
        show Code.wpIn _ _ _ _ _ _ _
        rw [hWb]
        refine wpIn_mono hbody' ?_
        have hnT : ¬ (fun k => R k ∨ T k) (D + 1) := fun h => h.elim hnl (fun h => by have := hT _ h; omega)
        have fin : ∀ (jump : Option Code) (W3 : World), Kept (fun k => R2 R k ∨ T k) Wb W3 →
            (Instr.endRound (D + 1) jump).run P W3 = .ok (.bool jump.isNone) (W3.putObj (D + 1) (.loop (rec (if jump.isNone then .ready else .done) jump))) ∧
            (W3.putObj (D + 1) (.loop (rec (if jump.isNone then .ready else .done) jump))).heap[D + 1]? = some (.loop (rec (if jump.isNone then .ready else .done) jump)) ∧
            (W3.putObj (D + 1) (.loop (rec (if jump.isNone then .ready else .done) jump))).heap[D]? = some (.deferred (some [])) ∧
            Kept (fun k => R k ∨ T k) W (W3.putObj (D + 1) (.loop (rec (if jump.isNone then .ready else .done) jump))) := fun jump W3 hk3 => by
          have hl3 := (hk3.block (D + 1) (.inl (.inr (.inr rfl))) (by omega)).trans hlb
          have := run_endRound (P := P) jump hl3
          rw [hrec] at this
          refine ⟨by rw [hrec]; exact this, World.putObj_heap_same (Array.getElem?_eq_some_iff.1 hl3).1, (World.putObj_heap_other (by omega)).trans ((hk3.block D (.inl (.inr (.inl rfl))) (by omega)).trans hkb), ?_⟩
          refine ((hka.less ?_).trans (keptb _ hnT)).trans ((hk3.less ?_).trans (Kept.putObj _ _ hnT))
          · exact fun k h _ => h.elim (fun h => .inl (.inl h)) .inr
          · exact fun k h _ => h.elim (fun h => .inl (.inl h)) .inr
        rintro e a3 W3 hp
        cases e with
        | normal =>
          obtain ⟨hk3, hi3⟩ := hp
          obtain ⟨hr, hl4, hk4, hkk⟩ := fin none W3 hk3
          exact ⟨_, _, hr, .inl ⟨rfl, ⟨hI _ _ _ _ _ hi3 (Step.putObj _ _ (.inr (.inr rfl))), ⟨hl4, hnl⟩, ⟨hk4, hnk⟩⟩, hkk⟩⟩
        | ret =>
          obtain ⟨hk3, hi3⟩ := hp
          obtain ⟨hr, hl4, hk4, hkk⟩ := fin (some .ret) W3 hk3
          exact ⟨_, _, hr, .inr ⟨rfl, ⟨.ret, hIx _ _ _ _ _ _ hi3 (Step.putObj _ _ (.inr (.inr rfl))), ⟨hl4, hnl⟩, ⟨hk4, hnk⟩⟩, hkk⟩⟩
        | exit id =>
          obtain ⟨hk3, hi3⟩ := hp
          obtain ⟨hr, hl4, hk4, hkk⟩ := fin (some (.exit id)) W3 hk3
          exact ⟨_, _, hr, .inr ⟨rfl, ⟨.exit id, hIx _ _ _ _ _ _ hi3 (Step.putObj _ _ (.inr (.inr rfl))), ⟨hl4, hnl⟩, ⟨hk4, hnk⟩⟩, hkk⟩⟩
        | goto t =>
          obtain ⟨hk3, hi3⟩ := hp
          obtain ⟨hr, hl4, hk4, hkk⟩ := fin (some (.goto t)) W3 hk3
          exact ⟨_, _, hr, .inr ⟨rfl, ⟨.goto t, hIx _ _ _ _ _ _ hi3 (Step.putObj _ _ (.inr (.inr rfl))), ⟨hl4, hnl⟩, ⟨hk4, hnk⟩⟩, hkk⟩⟩
        | panic ch => exact hp.elim
        | outgrown => exact hp.elim
      | ret => exact hpost.elim
      | exit id => exact hpost.elim
      | goto t => exact hpost.elim
      | panic ch => exact hpost.elim
      | outgrown => exact hpost.elim
    · -- behind the iterator
      rintro e W2 ⟨⟨v, rfl⟩, (⟨xs, R, hS, hi, ⟨hl, hnl⟩, ⟨hk, hnk⟩⟩ | ⟨pre, R, hSp, c, hi, ⟨hl, hnl⟩, ⟨hk, hnk⟩⟩)⟩
      · exact ⟨none, _, by have := run_endLoop (P := P) hl (by rw [hrec]; simp); rw [hrec] at this; exact this,
          hdone D (R2 R) xs _ (by omega) (.inr (.inl rfl)) hS (hI _ _ _ _ _ hi (Step.putObj _ _ (.inr (.inr rfl)))) ((World.putObj_heap_other (by omega)).trans hk)⟩
      · exact ⟨some c, _, by have := run_endLoop (P := P) hl (by rw [hrec]; simp); rw [hrec] at this; exact this,
          hstop D (R2 R) c pre _ (by omega) (.inr (.inl rfl)) hSp (hIx c _ _ _ _ _ hi (Step.putObj _ _ (.inr (.inr rfl)))) ((World.putObj_heap_other (by omega)).trans hk)⟩

/-- what a function that has left several such loops owes at its return -/
abbrev mark (D : Nat) : Deferred := { target := .collected D, args := #[] }
theorem leaves_marks {fn : Func} {tmps : Array Value} {R : Ending → World → Prop} : ∀ (Ds : List Nat) (W : World), Ds.Nodup → (∀ D ∈ Ds, W.heap[D]? = some (.deferred (some []))) →
    (∀ W', Kept (fun k => k ∉ Ds) W W' → LeavesIn F n P fn tmps R [] .returning W') → LeavesInM F n P fn tmps R (Ds.map mark) .returning W
  | [], W, _, _, h => h W (Kept.refl _ _)
  | D :: Ds, W, hnd, hW, h => by
    have hnd' := List.nodup_cons.1 hnd
    refine ⟨by simp, .inl ⟨D, _, rfl, run_takeDeferred (hW D (List.mem_cons_self ..)), ?_⟩⟩
    refine leaves_marks Ds _ hnd'.2 (fun E hE => ?_) (fun W' hk => h W' ?_)
    · exact (World.putObj_heap_other (fun e => by subst e; exact hnd'.1 hE)).trans (hW E (List.mem_cons_of_mem _ hE))
    · exact (Kept.putObj W _ (fun hn => hn (List.mem_cons_self ..))).trans (hk.less fun k hk _ hm => hk (List.mem_cons_of_mem _ hm))

/-- a row that is owned, by cases -/
theorem row_cases {w : World} {base : Nat} {e : TypeId} {size : Nat} {v : Value} {m : Nat} {xs : List Value} (h : w.ownsRow base e size v m xs) :
    ∃ ao cap, v = .slice ao m cap ∧ (0 < m → ∃ g, ao = some ⟨g, 0, none⟩ ∧ base ≤ g ∧ g < w.heap.size) := by
  rcases h.2 with ⟨rfl, rfl⟩ | ⟨g, cap, cur, rfl, h2, h3, _⟩
  · exact ⟨none, 0, rfl, fun h => by omega⟩
  · exact ⟨_, cap, rfl, fun _ => ⟨g, rfl, h2, (Array.getElem?_eq_some_iff.1 h3).1⟩⟩
theorem row_kept {T : Blocks} {w w' : World} {base : Nat} {e : TypeId} {size : Nat} {v : Value} {m : Nat} {xs : List Value} (h : w.ownsRow base e size v m xs) (hk : Kept T w w') (hT : ∀ g, v.ownBlock = some g → T g) :
    w'.ownsRow base e size v m xs := by
  rcases h with ⟨h0, h1 | ⟨g, cap, cur, h1, h2, h3, h4⟩⟩
  · exact ⟨h0, .inl h1⟩
  · exact ⟨h0, .inr ⟨g, cap, cur, h1, h2, (hk.block g (hT g (by rw [h1]; rfl)) (Array.getElem?_eq_some_iff.1 h3).1).trans h3, h4⟩⟩
end Sq
end Go.Proofs.YtghggkopbkhfpaaGreat
