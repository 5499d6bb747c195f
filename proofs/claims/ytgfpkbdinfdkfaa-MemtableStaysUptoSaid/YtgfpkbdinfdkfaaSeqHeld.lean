/-
  Ranges over a function whose iterator reads what the caller's body may change between the rounds: what the caller says of its state (J) must tell that what is read still stands (Held).
-/
import Derived.Test.YtgfpkbdinfdkfaaSeqLaw
namespace Go.Proofs.Ytgfpkbdinfdkfaa
open Go.RowKit
set_option linter.unusedVariables false
namespace Sq
/-- WHAT SUCH AN ITERATOR OWES: as SeqC, for callers whose word implies Held. -/
def SeqH (Held : Blocks → World → Prop) {α : Type} (F : Fence) (n : Nat) (P : Program) (g : Nat) (lb : Array Value) (encs : α → Array Value) (T : Blocks) (S Sp : List α → Prop) (w : World) : Prop :=
  ∀ (l : Nat) (J Jx : Blocks → List α → World → Prop) (W : World), Kept (fun _ => True) w W → Steady J → Steady Jx → (∀ R pre X, J R pre X → Held R X) →
    (∀ R pre x W1, J R pre W1 → (∀ k, R k → W.heap.size ≤ k ∧ k < W1.heap.size) → Sp (pre ++ [x]) → YieldAt F (n - 1) P l (encs x) W1 fun e W' =>
      (e = .returned (.bool true) ∧ J R (pre ++ [x]) W' ∧ Kept (fun k => R k ∨ T k) W1 W') ∨ (e = .returned (.bool false) ∧ Jx R (pre ++ [x]) W' ∧ Kept (fun k => R k ∨ T k) W1 W')) →
    J (fun _ => False) [] W →
    CallsIn F n P g (#[.func (.yield l) #[] #[]] ++ lb) W fun e W' => (∃ v, e = .returned v) ∧ ((∃ xs R, S xs ∧ J R xs W') ∨ (∃ pre R, Sp pre ∧ Jx R pre W'))

variable {F : Fence} {n : Nat} {P : Program}

/-- THE STATEMENT 'for .. := range seq { body }', outside of every other such loop's round. -/
theorem wp_rangeH {Held : Blocks → World → Prop} (hless : ∀ {R R' : Blocks} {W : World}, (∀ k, R k → R' k) → Held R' W → Held R W) {α : Type} {g : Operand} {ps : Array Tmp} {assign body : Code} {Q : Exit → Act → World → Prop} {a : Act} {w : World}
    (hro : F.round = none) (h1 : 1 ≤ n) {gf : Nat} {lb : Array Value} (hg : a.eval g = .func (.func gf) #[] lb) (hFg : F.fn gf) (eg : ∀ args w, (callFunc gf args).run P w = .ok (.enter gf args) w)
    {encs : α → Array Value} {T : Blocks} {S Sp : List α → Prop} (hseq : SeqH Held F (n - 1) P gf lb encs T S Sp w) (hT : ∀ k, T k → k < w.heap.size) (hps : ∀ x, (encs x).size = ps.size)
    (I : Blocks → List α → World → Prop) (Ix : Code → Blocks → List α → World → Prop) (Ia : Act → α → Blocks → List α → World → Prop)
    (hI : Steady I) (hH : ∀ R xs W, I R xs W → Held R W) (hIx : ∀ c, Steady (Ix c)) (hIa : ∀ a' x, Steady (Ia a' x)) (h0 : I (fun _ => False) [] w)
    (hassign : ∀ (l : Nat) (R : Blocks) (pre : List α) (x : α) (W : World), (∀ k, R k → w.heap.size ≤ k ∧ k < W.heap.size) → Sp (pre ++ [x]) → I R pre W →
      assign.wpIn (F.inRound l) (n - 1 - 1) P (Exit.then (fun a' W' => Kept (fun k => R k ∨ T k) W W' ∧ Ia a' x R pre W') (fun _ _ _ => False)) { tmps := (ps.zip (encs x)).foldl (fun t (p, v) => t.setIfInBounds p v) a.tmps, defers := [] } W)
    (hbody : ∀ (l : Nat) (R : Blocks) (pre : List α) (x : α) (a' : Act) (W : World), R l → (∃ r, W.heap[l]? = some (.loop r)) → (∀ k, R k → w.heap.size ≤ k ∧ k < W.heap.size) → Sp (pre ++ [x]) → Ia a' x R pre W →
      body.wpIn (F.inRound l) (n - 1 - 1) P (post T I Ix R (pre ++ [x]) W) a' W)
    (hdone : ∀ (D : Nat) (R : Blocks) (xs : List α) (W : World), w.heap.size ≤ D → R D → S xs → I R xs W → W.heap[D]? = some (.deferred (some [])) → Q .normal { a with defers := { target := .collected D, args := #[] } :: a.defers } W)
    (hstop : ∀ (D : Nat) (R : Blocks) (c : Code) (pre : List α) (W : World), w.heap.size ≤ D → R D → Sp pre → Ix c R pre W → W.heap[D]? = some (.deferred (some [])) → c.wpIn F n P Q { a with defers := { target := .collected D, args := #[] } :: a.defers } W) :
    (Code.rangeFunc g ps assign body).wpIn F n P Q a w := by
  refine wpIn_rangeFunc ?_
  intro fn hfn
  rw [hro]
  obtain ⟨rec, hrec⟩ : ∃ rec : LoopState → Option Code → Loop, rec = fun st pe => { state := st, pending := pe, fn, tmps := a.tmps, params := ps, assign, body, defers := w.heap.size } := ⟨_, rfl⟩
  obtain ⟨D, hD⟩ : ∃ D, D = w.heap.size := ⟨_, rfl⟩
  obtain ⟨W1, hW1⟩ : ∃ W1, (w.alloc (.deferred (some []))).alloc (.loop (rec .ready none)) = W1 := ⟨_, rfl⟩
  have hsz1 : W1.heap.size = D + 2 := by rw [← hW1]; simp; omega
  -- the blocks of the book-keeping beside those of the iterator's
  let R2 : Blocks → Blocks := fun R k => R k ∨ (k = D ∨ k = D + 1)
  have st0 : Step (fun _ => False) (R2 fun _ => False) w W1 := by
    rw [← hW1]
    refine ⟨(Kept.alloc _ _ _).trans (Kept.alloc _ _ _), fun _ h => h.elim, fun k h => ?_⟩
    rcases h with h | h | h
    · exact h.elim
    · exact .inr (by omega)
    · exact .inr (by omega)
  have hL1 : W1.heap[D + 1]? = some (.loop (rec .ready none)) := by
    rw [← hW1]; have := World.alloc_heap_new (w.alloc (.deferred (some []))) (.loop (rec .ready none)); rw [World.size_alloc, ← hD] at this; exact this
  have hK1 : W1.heap[D]? = some (.deferred (some [])) := by
    rw [← hW1, hD]; exact (Below.heap_alloc _ _ _ (by simp)).trans (World.alloc_heap_new w _)
  have hkT : Kept (fun _ => True) w W1 := by rw [← hW1]; exact (Kept.alloc _ _ _).trans (Kept.alloc _ _ _)
  have step2 : ∀ {R R' : Blocks} {X Y : World}, Step R R' X Y → Step (R2 R) (R2 R') X Y := fun st =>
    ⟨st.kept.less fun k hk _ h => hk (.inl h), fun k h => h.elim (fun h => .inl (st.sub k h)) .inr, fun k h => h.elim (fun h => (st.new k h).elim (fun h => .inl (.inl h)) .inr) (fun h => .inl (.inr h))⟩
  refine ⟨D + 1, [{ target := .collected D, args := #[] }], W1, { target := .fn (.func gf) lb, args := #[.func (.yield (D + 1)) #[] #[]] }, W1, gf,
    #[.func (.yield (D + 1)) #[] #[]] ++ lb, W1, ?_, ?_, ?_, ?_, fun _ => h1, ?_⟩
  · rw [← hW1, hrec, hD]; exact run_enterLoop_outer _ _ _ _ _
  · simp only [resolve, hg]
    simp [go_sem]
  · intro f' hf'; simp [Target.leads] at hf'; subst hf'; exact hFg
  · simp [invoke, go_sem, eg]
  · refine (hseq (D + 1)
      (fun R pre W => I (R2 R) pre W ∧ (W.heap[D + 1]? = some (.loop (rec .ready none)) ∧ ¬ R (D + 1)) ∧ (W.heap[D]? = some (.deferred (some [])) ∧ ¬ R D))
      (fun R pre W => ∃ c, Ix c (R2 R) pre W ∧ (W.heap[D + 1]? = some (.loop (rec .done (some c))) ∧ ¬ R (D + 1)) ∧ (W.heap[D]? = some (.deferred (some [])) ∧ ¬ R D))
      W1 hkT
      (fun R R' s X Y hs st => ⟨hI _ _ _ _ _ hs.1 (step2 st), step_obj st hs.2.1.1 hs.2.1.2, step_obj st hs.2.2.1 hs.2.2.2⟩)
      (fun R R' s X Y ⟨c, hs⟩ st => ⟨c, hIx c _ _ _ _ _ hs.1 (step2 st), step_obj st hs.2.1.1 hs.2.1.2, step_obj st hs.2.2.1 hs.2.2.2⟩)
      (fun R s X hs => hless (fun k hk => .inl hk) (hH _ _ _ hs.1))
      ?_ ⟨hI _ _ _ _ _ h0 st0, ⟨hL1, fun h => h⟩, ⟨hK1, fun h => h⟩⟩).mono ?_
    · -- one round
      rintro R pre x W ⟨hi, ⟨hl, hnl⟩, ⟨hk, hnk⟩⟩ hbd hsp
      have hlt : D + 1 < W.heap.size := (Array.getElem?_eq_some_iff.1 hl).1
      have hbd2 : ∀ (X : World), W.heap.size ≤ X.heap.size → ∀ k, R2 R k → w.heap.size ≤ k ∧ k < X.heap.size := fun X hX k h => by
        rcases h with h | h | h
        · have := hbd k h; omega
        · omega
        · omega
      have hy := run_yield (P := P) (args := encs x) hl (by rw [hrec]; exact hps x)
      rw [hrec] at hy
      refine ⟨fn, _, assign, body, hy, roundIn_of_wpIn hfn ?_⟩
      clear hy
      refine wpIn_mono (hassign (D + 1) (R2 R) pre x W (hbd2 W (Nat.le_refl _)) hsp hi) ?_
      rintro e a' Wa hpost
      cases e with
      | normal =>
        obtain ⟨hka, hia⟩ := hpost
        have hla : Wa.heap[D + 1]? = some (.loop (rec .ready none)) := (hka.block (D + 1) (.inl (.inr (.inr rfl))) hlt).trans hl
        have hka2 : Wa.heap[D]? = some (.deferred (some [])) := (hka.block D (.inl (.inr (.inl rfl))) (by omega)).trans hk
        have hlta : D + 1 < Wa.heap.size := (Array.getElem?_eq_some_iff.1 hla).1
        refine ⟨_, run_beginRound hla (by rw [hrec]), ?_⟩
        obtain ⟨Wb, hWb⟩ : ∃ Wb, Wa.putObj (D + 1) (.loop { rec .ready none with state := .busy }) = Wb := ⟨_, rfl⟩
        have hlb : Wb.heap[D + 1]? = some (.loop { rec .ready none with state := .busy }) := by rw [← hWb]; exact World.putObj_heap_same hlta
        have hkb : Wb.heap[D]? = some (.deferred (some [])) := by rw [← hWb]; exact (World.putObj_heap_other (by omega)).trans hka2
        have hszb : Wb.heap.size = Wa.heap.size := by rw [← hWb]; simp
        have keptb : ∀ T' : Blocks, ¬ T' (D + 1) → Kept T' Wa Wb := fun T' h => by rw [← hWb]; exact Kept.putObj _ _ h
        have hib := hIa a' x _ _ _ _ _ hia (show Step (R2 R) (R2 R) Wa Wb by rw [← hWb]; exact Step.putObj (R := R2 R) Wa _ (.inr (.inr rfl)))
        have hbody' := hbody (D + 1) (R2 R) pre x a' Wb (.inr (.inr rfl)) ⟨_, hlb⟩ (hbd2 Wb (by rw [hszb]; exact hka.size)) hsp hib
        show Code.wpIn _ _ _ _ _ _ _
        rw [hWb]
        refine wpIn_mono hbody' ?_
        have hnT : ¬ (fun k => R k ∨ T k) (D + 1) := fun h => h.elim hnl (fun h => by have := hT _ h; omega)
        have fin : ∀ (jump : Option Code) (W3 : World), Kept (fun k => R2 R k ∨ T k) Wb W3 →
            (Instr.endRound (D + 1) jump).run P W3 = .ok (.bool jump.isNone) (W3.putObj (D + 1) (.loop (rec (if jump.isNone then .ready else .done) jump))) ∧
            (W3.putObj (D + 1) (.loop (rec (if jump.isNone then .ready else .done) jump))).heap[D + 1]? = some (.loop (rec (if jump.isNone then .ready else .done) jump)) ∧
            (W3.putObj (D + 1) (.loop (rec (if jump.isNone then .ready else .done) jump))).heap[D]? = some (.deferred (some [])) ∧
            Kept (fun k => R k ∨ T k) W (W3.putObj (D + 1) (.loop (rec (if jump.isNone then .ready else .done) jump))) := fun jump W3 hk3 => by
          have hl3 := (hk3.block (D + 1) (.inl (.inr (.inr rfl))) (by omega)).trans hlb
          have := run_endRound (P := P) jump hl3
          rw [hrec] at this
          refine ⟨by rw [hrec]; exact this, World.putObj_heap_same (Array.getElem?_eq_some_iff.1 hl3).1, (World.putObj_heap_other (by omega)).trans ((hk3.block D (.inl (.inr (.inl rfl))) (by omega)).trans hkb), ?_⟩
          refine ((hka.less ?_).trans (keptb _ hnT)).trans ((hk3.less ?_).trans (Kept.putObj _ _ hnT))
          · exact fun k h _ => h.elim (fun h => .inl (.inl h)) .inr
          · exact fun k h _ => h.elim (fun h => .inl (.inl h)) .inr
        rintro e a3 W3 hp
        cases e with
        | normal =>
          obtain ⟨hk3, hi3⟩ := hp
          obtain ⟨hr, hl4, hk4, hkk⟩ := fin none W3 hk3
          exact ⟨_, _, hr, .inl ⟨rfl, ⟨hI _ _ _ _ _ hi3 (Step.putObj _ _ (.inr (.inr rfl))), ⟨hl4, hnl⟩, ⟨hk4, hnk⟩⟩, hkk⟩⟩
        | ret =>
          obtain ⟨hk3, hi3⟩ := hp
          obtain ⟨hr, hl4, hk4, hkk⟩ := fin (some .ret) W3 hk3
          exact ⟨_, _, hr, .inr ⟨rfl, ⟨.ret, hIx _ _ _ _ _ _ hi3 (Step.putObj _ _ (.inr (.inr rfl))), ⟨hl4, hnl⟩, ⟨hk4, hnk⟩⟩, hkk⟩⟩
        | exit id =>
          obtain ⟨hk3, hi3⟩ := hp
          obtain ⟨hr, hl4, hk4, hkk⟩ := fin (some (.exit id)) W3 hk3
          exact ⟨_, _, hr, .inr ⟨rfl, ⟨.exit id, hIx _ _ _ _ _ _ hi3 (Step.putObj _ _ (.inr (.inr rfl))), ⟨hl4, hnl⟩, ⟨hk4, hnk⟩⟩, hkk⟩⟩
        | goto t =>
          obtain ⟨hk3, hi3⟩ := hp
          obtain ⟨hr, hl4, hk4, hkk⟩ := fin (some (.goto t)) W3 hk3
          exact ⟨_, _, hr, .inr ⟨rfl, ⟨.goto t, hIx _ _ _ _ _ _ hi3 (Step.putObj _ _ (.inr (.inr rfl))), ⟨hl4, hnl⟩, ⟨hk4, hnk⟩⟩, hkk⟩⟩
        | panic ch => exact hp.elim
        | outgrown => exact hp.elim
      | ret => exact hpost.elim
      | exit id => exact hpost.elim
      | goto t => exact hpost.elim
      | panic ch => exact hpost.elim
      | outgrown => exact hpost.elim
    · -- behind the iterator
      rintro e W2 ⟨⟨v, rfl⟩, (⟨xs, R, hS, hi, ⟨hl, hnl⟩, ⟨hk, hnk⟩⟩ | ⟨pre, R, hSp, c, hi, ⟨hl, hnl⟩, ⟨hk, hnk⟩⟩)⟩
      · exact ⟨none, _, by have := run_endLoop (P := P) hl (by rw [hrec]; simp); rw [hrec] at this; exact this,
          hdone D (R2 R) xs _ (by omega) (.inr (.inl rfl)) hS (hI _ _ _ _ _ hi (Step.putObj _ _ (.inr (.inr rfl)))) ((World.putObj_heap_other (by omega)).trans hk)⟩
      · exact ⟨some c, _, by have := run_endLoop (P := P) hl (by rw [hrec]; simp); rw [hrec] at this; exact this,
          hstop D (R2 R) c pre _ (by omega) (.inr (.inl rfl)) hSp (hIx c _ _ _ _ _ hi (Step.putObj _ _ (.inr (.inr rfl)))) ((World.putObj_heap_other (by omega)).trans hk)⟩

end Sq
end Go.Proofs.Ytgfpkbdinfdkfaa
