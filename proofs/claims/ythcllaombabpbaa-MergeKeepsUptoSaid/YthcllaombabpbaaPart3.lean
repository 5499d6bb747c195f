import Derived.Deep.LoopGhost
import Derived.LoopTactic
import Derived.BigQuiet
import Derived.Deep.QuietTactic
import Derived.Deep.AppendLies
import Derived.Deep.RegionLaw
import Derived.OwnWalk
import Derived.Deep.RegionHeld3
import Derived.Shelf.Abstract
import Derived.Shelf.RegionOpen
import Derived.OwnWalkIn
import Derived.TacticsInMore
import Derived.LoopNIn
import Derived.LoopIn
import Derived.Deep.CutBlock
import Derived.Deep.CutRange
import Derived.Test.YthcllaombabpbaaPart2
/-
  The document's looks at rows of versions (tapestryref06): Same, Bytes, Newest, From.
-/
namespace Go.Proofs.Ythcllaombabpbaa
open Go.RowKit
set_option linter.unusedSimpArgs false
set_option linter.unusedVariables false
namespace Mt
open Vs (Vers At)

set_option maxRecDepth 100000 in
set_option maxHeartbeats 4000000 in
theorem sameR_eq (u v : Value) (L : List Ver) (w : World) (hU : Vers w.heap.size w u L) (hV : Vers w.heap.size w v L) (hL : L.length ≤ 4611686018427387904) :
    Calls Try.prog 9 #[u, v] w fun e w' => e = .returned (.bool true) ∧ Below w.heap.size w w' := by
  obtain ⟨a, cap, fb, fo, rfl, ha, hcells⟩ := hU
  obtain ⟨a', cap', gb, go', rfl, ha', hcells'⟩ := hV
  have HC := Lib.hid hcells
  have HD := Lib.hid hcells'
  clear hcells hcells'
  go_enter Try.func9, Try.ntmps9
  go_wp2_with fail
  go_loopw [5] (fun i wr => ∃ q : Nat, q ≤ L.length ∧ i = .int .i64 (q : Int) ∧ Below w.heap.size w wr) (fun i _ => L.length - (intOf i).toNat)
  case atStart => exact ⟨0, Nat.zero_le _, rfl, Below.refl _ _⟩
  case round =>
    obtain ⟨q, hq, rfl, hB⟩ := hrel
    by_cases hlt : q < L.length
    · obtain ⟨rfl, hfb⟩ := ha (by omega)
      obtain ⟨rfl, hgb⟩ := ha' (by omega)
      obtain ⟨e0, e1, e2, e3⟩ := (HC.out q hlt).below hB hfb
      obtain ⟨d0, d1, d2, d3⟩ := (HD.out q hlt).below hB hgb
      have hi1 : (0 : Int) ≤ (q : Int) ∧ (q : Int) < (L.length : Int) := by omega
      generalize L[q] = x at *
      obtain ⟨k, sq, d, val⟩ := x
      simp only at e0 e1 e2 e3 d0 d1 d2 d3
      go_wp2_with fail
      go_big_quiet (fail)
      go_wp2_with fail
      go_roundw
      case rel => exact ⟨q + 1, by omega, by go_num, belowN hB _⟩
      case measure => simp [intOf]; omega
    · obtain rfl : q = L.length := by omega
      go_wp2_with fail
      go_ret
      exact ⟨rfl, hB⟩

theorem bytes_take (L : List Ver) (q : Nat) (h : q < L.length) : ((L.take (q + 1)).map fun x => x.key.length + x.val.length + 16).sum = ((L.take q).map fun x => x.key.length + x.val.length + 16).sum + (L[q].key.length + L[q].val.length + 16) := by
  rw [List.take_succ_eq_append_getElem h, List.map_append, List.sum_append]
  simp
theorem bytes_le (L : List Ver) (h : ∀ x ∈ L, VerIn x) : ∀ q, ((L.take q).map fun x => x.key.length + x.val.length + 16).sum ≤ 2097168 * q := by
  intro q
  induction q with
  | zero => simp
  | succ q ih =>
    by_cases hq : q < L.length
    · rw [bytes_take L q hq]
      obtain ⟨h1, h2, _, _⟩ := h L[q] (List.getElem_mem hq)
      omega
    · rw [List.take_of_length_le (by omega), ← List.take_of_length_le (l := L) (i := q) (by omega)]
      omega

end Mt
end Go.Proofs.Ythcllaombabpbaa
/-
  The document's lists that a row is cut into (tapestryref09.Cut).
-/
namespace Go.Proofs.Ythcllaombabpbaa
open Go.RowKit
set_option linter.unusedSimpArgs false
set_option linter.unusedVariables false
namespace Mg
open Mt (Ver mayB lessB placeB VerIn verV)
open Vs (Vers At)
open Tb (ver0 getD_at own_after slc part_vers part_len part_mem info_vers)

theorem ctN_in (b : Int) (L : List Ver) : ∀ n, (ctN b L n).2 ≤ n ∧ (ctN b L n).1.length ≤ n ∧ ∀ p ∈ (ctN b L n).1, 1 ≤ p.2 ∧ p.1 + p.2 ≤ n
  | 0 => ⟨Nat.le_refl _, Nat.le_refl _, fun p hp => (by cases hp)⟩
  | n + 1 => by
    obtain ⟨h1, h2, h3⟩ := ctN_in b L n
    rw [ctN_succ]
    unfold ctStep
    split
    · refine ⟨Nat.le_refl _, by simp; omega, fun p hp => ?_⟩
      rcases List.mem_append.1 hp with hp | hp
      · have := h3 p hp; omega
      · simp at hp; subst hp; simp only; omega
    · exact ⟨by omega, by omega, fun p hp => by have := h3 p hp; omega⟩

end Mg
end Go.Proofs.Ythcllaombabpbaa
/-
  Ranges over a function that hands over memory which the loop may write to: what the iterator owes, what the loop owes (as XSeqLaw; Own x: the blocks that are handed over with x; Fx x R W: what is said of them).
-/
namespace Go.Proofs.Ythcllaombabpbaa
open Go.RowKit
set_option linter.unusedVariables false
namespace Sq

def SeqW {α : Type} (F : Fence) (n : Nat) (P : Program) (g : Nat) (lb : Array Value) (encs : α → Array Value) (Fx : α → Blocks → World → Prop) (Own : α → Blocks) (T : Blocks) (S Sp : List α → Prop) (w : World) : Prop :=
  ∀ (l : Nat) (J Jx : Blocks → List α → World → Prop) (W : World), Kept T w W → Steady J → Steady Jx →
    (∀ R pre x W1, J R pre W1 → (∀ k, R k → W.heap.size ≤ k ∧ k < W1.heap.size) → Sp (pre ++ [x]) → Fx x R W1 → YieldAt F (n - 1) P l (encs x) W1 fun e W' =>
      (e = .returned (.bool true) ∧ J R (pre ++ [x]) W' ∧ Kept (fun k => (R k ∧ ¬ Own x k) ∨ T k) W1 W') ∨ (e = .returned (.bool false) ∧ Jx R (pre ++ [x]) W' ∧ Kept (fun k => (R k ∧ ¬ Own x k) ∨ T k) W1 W')) →
    J (fun _ => False) [] W →
    CallsIn F n P g (#[.func (.yield l) #[] #[]] ++ lb) W fun e W' => (∃ v, e = .returned v) ∧ ((∃ xs R, S xs ∧ J R xs W') ∨ (∃ pre R, Sp pre ∧ Jx R pre W'))

def postW {α : Type} (Ow T : Blocks) (I : Blocks → List α → World → Prop) (Ix : Code → Blocks → List α → World → Prop) (R : Blocks) (xs : List α) (W : World) : Exit → Act → World → Prop
  | .normal, _, W' => Kept (fun k => (R k ∧ ¬ Ow k) ∨ T k) W W' ∧ I R xs W'
  | .ret, _, W' => Kept (fun k => (R k ∧ ¬ Ow k) ∨ T k) W W' ∧ Ix .ret R xs W'
  | .exit id, _, W' => Kept (fun k => (R k ∧ ¬ Ow k) ∨ T k) W W' ∧ Ix (.exit id) R xs W'
  | .goto t, _, W' => Kept (fun k => (R k ∧ ¬ Ow k) ∨ T k) W W' ∧ Ix (.goto t) R xs W'
  | .panic _, _, _ => False
  | .outgrown, _, _ => False

variable {F : Fence} {n : Nat} {P : Program}

/-- THE STATEMENT 'for .. := range seq { body }' over such a sequence. -/
theorem wp_rangeW {α : Type} {g : Operand} {ps : Array Tmp} {assign body : Code} {Q : Exit → Act → World → Prop} {a : Act} {w : World}
    (hro : F.round = none) (h1 : 1 ≤ n) {gf : Nat} {lb : Array Value} (hg : a.eval g = .func (.func gf) #[] lb) (hFg : F.fn gf) (eg : ∀ args w, (callFunc gf args).run P w = .ok (.enter gf args) w)
    {encs : α → Array Value} {Fx : α → Blocks → World → Prop} {Own : α → Blocks} {T : Blocks} {S Sp : List α → Prop} (hseq : SeqW F (n - 1) P gf lb encs Fx Own T S Sp w)
    (hFm : ∀ x R R' W, Fx x R W → (∀ k, R k → R' k) → Fx x R' W) (hFk : ∀ x R W W', Fx x R W → Kept R W W' → Fx x R W') (hFo : ∀ x R W k, Fx x R W → Own x k → R k) (hT : ∀ k, T k → k < w.heap.size) (hps : ∀ x, (encs x).size = ps.size)
    (I : Blocks → List α → World → Prop) (Ix : Code → Blocks → List α → World → Prop) (Ia : Act → α → Blocks → List α → World → Prop)
    (hI : Steady I) (hIx : ∀ c, Steady (Ix c)) (hIa : ∀ a' x, Steady (Ia a' x)) (h0 : I (fun _ => False) [] w)
    (hassign : ∀ (l : Nat) (R : Blocks) (pre : List α) (x : α) (W : World), (∀ k, R k → w.heap.size ≤ k ∧ k < W.heap.size) → Sp (pre ++ [x]) → I R pre W → Fx x R W →
      assign.wpIn (F.inRound l) (n - 1 - 1) P (Exit.then (fun a' W' => Kept (fun k => R k ∨ T k) W W' ∧ Ia a' x R pre W') (fun _ _ _ => False)) { tmps := (ps.zip (encs x)).foldl (fun t (p, v) => t.setIfInBounds p v) a.tmps, defers := [] } W)
    (hbody : ∀ (l : Nat) (R : Blocks) (pre : List α) (x : α) (a' : Act) (W : World), R l → (∃ r, W.heap[l]? = some (.loop r)) → (∀ k, R k → w.heap.size ≤ k ∧ k < W.heap.size) → Sp (pre ++ [x]) → Ia a' x R pre W → Fx x R W →
      body.wpIn (F.inRound l) (n - 1 - 1) P (postW (Own x) T I Ix R (pre ++ [x]) W) a' W)
    (hdone : ∀ (D : Nat) (R : Blocks) (xs : List α) (W : World), w.heap.size ≤ D → R D → S xs → I R xs W → W.heap[D]? = some (.deferred (some [])) → Q .normal { a with defers := { target := .collected D, args := #[] } :: a.defers } W)
    (hstop : ∀ (D : Nat) (R : Blocks) (c : Code) (pre : List α) (W : World), w.heap.size ≤ D → R D → Sp pre → Ix c R pre W → W.heap[D]? = some (.deferred (some [])) → c.wpIn F n P Q { a with defers := { target := .collected D, args := #[] } :: a.defers } W) :
    (Code.rangeFunc g ps assign body).wpIn F n P Q a w := by
  refine wpIn_rangeFunc ?_
  intro fn hfn
  rw [hro]
  obtain ⟨rec, hrec⟩ : ∃ rec : LoopState → Option Code → Loop, rec = fun st pe => { state := st, pending := pe, fn, tmps := a.tmps, params := ps, assign, body, defers := w.heap.size } := ⟨_, rfl⟩
  obtain ⟨D, hD⟩ : ∃ D, D = w.heap.size := ⟨_, rfl⟩
  obtain ⟨W1, hW1⟩ : ∃ W1, (w.alloc (.deferred (some []))).alloc (.loop (rec .ready none)) = W1 := ⟨_, rfl⟩
  have hsz1 : W1.heap.size = D + 2 := by rw [← hW1]; simp; omega
  -- the blocks of the book-keeping beside those of the iterator's
  let R2 : Blocks → Blocks := fun R k => R k ∨ (k = D ∨ k = D + 1)
  have st0 : Step (fun _ => False) (R2 fun _ => False) w W1 := by
    rw [← hW1]
    refine ⟨(Kept.alloc _ _ _).trans (Kept.alloc _ _ _), fun _ h => h.elim, fun k h => ?_⟩
    rcases h with h | h | h
    · exact h.elim
    · exact .inr (by omega)
    · exact .inr (by omega)
  have hL1 : W1.heap[D + 1]? = some (.loop (rec .ready none)) := by
    rw [← hW1]; have := World.alloc_heap_new (w.alloc (.deferred (some []))) (.loop (rec .ready none)); rw [World.size_alloc, ← hD] at this; exact this
  have hK1 : W1.heap[D]? = some (.deferred (some [])) := by
    rw [← hW1, hD]; exact (Below.heap_alloc _ _ _ (by simp)).trans (World.alloc_heap_new w _)
  have hkT : Kept T w W1 := by rw [← hW1]; exact (Kept.alloc _ _ _).trans (Kept.alloc _ _ _)
  have step2 : ∀ {R R' : Blocks} {X Y : World}, Step R R' X Y → Step (R2 R) (R2 R') X Y := fun st =>
    ⟨st.kept.less fun k hk _ h => hk (.inl h), fun k h => h.elim (fun h => .inl (st.sub k h)) .inr, fun k h => h.elim (fun h => (st.new k h).elim (fun h => .inl (.inl h)) .inr) (fun h => .inl (.inr h))⟩
  refine ⟨D + 1, [{ target := .collected D, args := #[] }], W1, { target := .fn (.func gf) lb, args := #[.func (.yield (D + 1)) #[] #[]] }, W1, gf,
    #[.func (.yield (D + 1)) #[] #[]] ++ lb, W1, ?_, ?_, ?_, ?_, fun _ => h1, ?_⟩
  · rw [← hW1, hrec, hD]; exact run_enterLoop_outer _ _ _ _ _
  · simp only [resolve, hg]
    simp [go_sem]
  · intro f' hf'; simp [Target.leads] at hf'; subst hf'; exact hFg
  · simp [invoke, go_sem, eg]
  · refine (hseq (D + 1)
      (fun R pre W => I (R2 R) pre W ∧ (W.heap[D + 1]? = some (.loop (rec .ready none)) ∧ ¬ R (D + 1)) ∧ (W.heap[D]? = some (.deferred (some [])) ∧ ¬ R D))
      (fun R pre W => ∃ c, Ix c (R2 R) pre W ∧ (W.heap[D + 1]? = some (.loop (rec .done (some c))) ∧ ¬ R (D + 1)) ∧ (W.heap[D]? = some (.deferred (some [])) ∧ ¬ R D))
      W1 hkT
      (fun R R' s X Y hs st => ⟨hI _ _ _ _ _ hs.1 (step2 st), step_obj st hs.2.1.1 hs.2.1.2, step_obj st hs.2.2.1 hs.2.2.2⟩)
      (fun R R' s X Y ⟨c, hs⟩ st => ⟨c, hIx c _ _ _ _ _ hs.1 (step2 st), step_obj st hs.2.1.1 hs.2.1.2, step_obj st hs.2.2.1 hs.2.2.2⟩)
      ?_ ⟨hI _ _ _ _ _ h0 st0, ⟨hL1, fun h => h⟩, ⟨hK1, fun h => h⟩⟩).mono ?_
    · -- one round
      rintro R pre x W ⟨hi, ⟨hl, hnl⟩, ⟨hk, hnk⟩⟩ hbd hsp hfx
      have hlt : D + 1 < W.heap.size := (Array.getElem?_eq_some_iff.1 hl).1
      have hbd2 : ∀ (X : World), W.heap.size ≤ X.heap.size → ∀ k, R2 R k → w.heap.size ≤ k ∧ k < X.heap.size := fun X hX k h => by
        rcases h with h | h | h
        · have := hbd k h; omega
        · omega
        · omega
      have hy := run_yield (P := P) (args := encs x) hl (by rw [hrec]; exact hps x)
      rw [hrec] at hy
      refine ⟨fn, _, assign, body, hy, roundIn_of_wpIn hfn ?_⟩
      clear hy
      refine wpIn_mono (hassign (D + 1) (R2 R) pre x W (hbd2 W (Nat.le_refl _)) hsp hi (hFm _ _ _ _ hfx fun k hk => .inl hk)) ?_
      rintro e a' Wa hpost
      cases e with
      | normal =>
        obtain ⟨hka, hia⟩ := hpost
        have hla : Wa.heap[D + 1]? = some (.loop (rec .ready none)) := (hka.block (D + 1) (.inl (.inr (.inr rfl))) hlt).trans hl
        have hka2 : Wa.heap[D]? = some (.deferred (some [])) := (hka.block D (.inl (.inr (.inl rfl))) (by omega)).trans hk
        have hlta : D + 1 < Wa.heap.size := (Array.getElem?_eq_some_iff.1 hla).1
        refine ⟨_, run_beginRound hla (by rw [hrec]), ?_⟩
        obtain ⟨Wb, hWb⟩ : ∃ Wb, Wa.putObj (D + 1) (.loop { rec .ready none with state := .busy }) = Wb := ⟨_, rfl⟩
        have hlb : Wb.heap[D + 1]? = some (.loop { rec .ready none with state := .busy }) := by rw [← hWb]; exact World.putObj_heap_same hlta
        have hkb : Wb.heap[D]? = some (.deferred (some [])) := by rw [← hWb]; exact (World.putObj_heap_other (by omega)).trans hka2
        have hszb : Wb.heap.size = Wa.heap.size := by rw [← hWb]; simp
        have keptb : ∀ T' : Blocks, ¬ T' (D + 1) → Kept T' Wa Wb := fun T' h => by rw [← hWb]; exact Kept.putObj _ _ h
        have hib := hIa a' x _ _ _ _ _ hia (show Step (R2 R) (R2 R) Wa Wb by rw [← hWb]; exact Step.putObj (R := R2 R) Wa _ (.inr (.inr rfl)))
        have hbody' := hbody (D + 1) (R2 R) pre x a' Wb (.inr (.inr rfl)) ⟨_, hlb⟩ (hbd2 Wb (by rw [hszb]; exact hka.size)) hsp hib (hFm _ _ _ _ (hFk x R _ _ (hFk x R _ _ hfx (hka.less fun k hk _ => .inl (.inl hk))) (keptb R hnl)) fun k hk => .inl hk)
        have hno : ∀ k, Own x k → k ≠ D ∧ k ≠ D + 1 := fun k hk => ⟨fun e => hnk (e ▸ hFo _ _ _ _ hfx hk), fun e => hnl (e ▸ hFo _ _ _ _ hfx hk)⟩
        show Code.wpIn _ _ _ _ _ _ _
        rw [hWb]
        refine wpIn_mono hbody' ?_
        have hnT : ¬ (fun k => (R k ∧ ¬ Own x k) ∨ T k) (D + 1) := fun h => h.elim (fun h => hnl h.1) (fun h => by have := hT _ h; omega)
        have fin : ∀ (jump : Option Code) (W3 : World), Kept (fun k => (R2 R k ∧ ¬ Own x k) ∨ T k) Wb W3 →
            (Instr.endRound (D + 1) jump).run P W3 = .ok (.bool jump.isNone) (W3.putObj (D + 1) (.loop (rec (if jump.isNone then .ready else .done) jump))) ∧
            (W3.putObj (D + 1) (.loop (rec (if jump.isNone then .ready else .done) jump))).heap[D + 1]? = some (.loop (rec (if jump.isNone then .ready else .done) jump)) ∧
            (W3.putObj (D + 1) (.loop (rec (if jump.isNone then .ready else .done) jump))).heap[D]? = some (.deferred (some [])) ∧
            Kept (fun k => (R k ∧ ¬ Own x k) ∨ T k) W (W3.putObj (D + 1) (.loop (rec (if jump.isNone then .ready else .done) jump))) := fun jump W3 hk3 => by
          have hl3 := (hk3.block (D + 1) (.inl ⟨.inr (.inr rfl), fun h => (hno _ h).2 rfl⟩) (by omega)).trans hlb
          have := run_endRound (P := P) jump hl3
          rw [hrec] at this
          refine ⟨by rw [hrec]; exact this, World.putObj_heap_same (Array.getElem?_eq_some_iff.1 hl3).1, (World.putObj_heap_other (by omega)).trans ((hk3.block D (.inl ⟨.inr (.inl rfl), fun h => (hno _ h).1 rfl⟩) (by omega)).trans hkb), ?_⟩
          refine ((hka.less ?_).trans (keptb _ hnT)).trans ((hk3.less ?_).trans (Kept.putObj _ _ hnT))
          · exact fun k h _ => h.elim (fun h => .inl (.inl h.1)) .inr
          · exact fun k h _ => h.elim (fun h => .inl ⟨.inl h.1, h.2⟩) .inr
        rintro e a3 W3 hp
        cases e with
        | normal =>
          obtain ⟨hk3, hi3⟩ := hp
          obtain ⟨hr, hl4, hk4, hkk⟩ := fin none W3 hk3
          exact ⟨_, _, hr, .inl ⟨rfl, ⟨hI _ _ _ _ _ hi3 (Step.putObj _ _ (.inr (.inr rfl))), ⟨hl4, hnl⟩, ⟨hk4, hnk⟩⟩, hkk⟩⟩
        | ret =>
          obtain ⟨hk3, hi3⟩ := hp
          obtain ⟨hr, hl4, hk4, hkk⟩ := fin (some .ret) W3 hk3
          exact ⟨_, _, hr, .inr ⟨rfl, ⟨.ret, hIx _ _ _ _ _ _ hi3 (Step.putObj _ _ (.inr (.inr rfl))), ⟨hl4, hnl⟩, ⟨hk4, hnk⟩⟩, hkk⟩⟩
        | exit id =>
          obtain ⟨hk3, hi3⟩ := hp
          obtain ⟨hr, hl4, hk4, hkk⟩ := fin (some (.exit id)) W3 hk3
          exact ⟨_, _, hr, .inr ⟨rfl, ⟨.exit id, hIx _ _ _ _ _ _ hi3 (Step.putObj _ _ (.inr (.inr rfl))), ⟨hl4, hnl⟩, ⟨hk4, hnk⟩⟩, hkk⟩⟩
        | goto t =>
          obtain ⟨hk3, hi3⟩ := hp
          obtain ⟨hr, hl4, hk4, hkk⟩ := fin (some (.goto t)) W3 hk3
          exact ⟨_, _, hr, .inr ⟨rfl, ⟨.goto t, hIx _ _ _ _ _ _ hi3 (Step.putObj _ _ (.inr (.inr rfl))), ⟨hl4, hnl⟩, ⟨hk4, hnk⟩⟩, hkk⟩⟩
        | panic ch => exact hp.elim
        | outgrown => exact hp.elim
      | ret => exact hpost.elim
      | exit id => exact hpost.elim
      | goto t => exact hpost.elim
      | panic ch => exact hpost.elim
      | outgrown => exact hpost.elim
    · -- behind the iterator
      rintro e W2 ⟨⟨v, rfl⟩, (⟨xs, R, hS, hi, ⟨hl, hnl⟩, ⟨hk, hnk⟩⟩ | ⟨pre, R, hSp, c, hi, ⟨hl, hnl⟩, ⟨hk, hnk⟩⟩)⟩
      · exact ⟨none, _, by have := run_endLoop (P := P) hl (by rw [hrec]; simp); rw [hrec] at this; exact this,
          hdone D (R2 R) xs _ (by omega) (.inr (.inl rfl)) hS (hI _ _ _ _ _ hi (Step.putObj _ _ (.inr (.inr rfl)))) ((World.putObj_heap_other (by omega)).trans hk)⟩
      · exact ⟨some c, _, by have := run_endLoop (P := P) hl (by rw [hrec]; simp); rw [hrec] at this; exact this,
          hstop D (R2 R) c pre _ (by omega) (.inr (.inl rfl)) hSp (hIx c _ _ _ _ _ hi (Step.putObj _ _ (.inr (.inr rfl)))) ((World.putObj_heap_other (by omega)).trans hk)⟩
end Sq
end Go.Proofs.Ythcllaombabpbaa

/-
  Plain data that a call has made itself, in rows of its own at B or above: kept, read, and put together by append. (What came in: XGen.)
-/
namespace Go.Proofs.Ythcllaombabpbaa
open Go.RowKit
set_option linter.unusedVariables false
namespace Gn

/-- a row of elements, each of so many cells -/
def OwL (W : World) (B : Nat) (te : TypeId) (sz : Nat) {α : Type} (ow : List Value → α → Prop) (v : Value) (l : List α) : Prop :=
  ∃ rows : List (List Value), rows.length = l.length ∧ W.ownsRow B te sz v l.length rows.flatten ∧ ∀ j (h : j < l.length) (h' : j < rows.length), rows[j].length = sz ∧ ow rows[j] l[j]
mutual
def OwC (P : Program) (B : Nat) (W : World) : (t : Ty) → TypeId → List Value → t.Den → Prop
  | .int k, _, cs, (a : Int) => cs = [.int k a] ∧ (Lit.int k a).wf = true
  | .bool, _, cs, (x : Bool) => cs = [.bool x]
  | .str, _, cs, (l : List UInt8) => cs = [.string ⟨l.toArray⟩] ∧ l.length ≤ maxLen
  | .slice e, ti, cs, (l : List e.Den) => ∃ te v, P.underlying ti = some (.slice te) ∧ cs = [v] ∧ OwL W B te e.size (OwC P B W e te) v l
  | .struct fs, ti, cs, d => ∃ Fs, P.underlying ti = some (.struct Fs) ∧ OwCs P B W fs Fs.toList cs d
def OwCs (P : Program) (B : Nat) (W : World) : (fs : Tys) → List Field → List Value → fs.Den → Prop
  | .nil, _, cs, _ => cs = []
  | .cons t r, l, cs, d => ∃ f l' c1 c2, l = f :: l' ∧ cs = c1 ++ c2 ∧ c1.length = t.size ∧ OwC P B W t f.type c1 d.1 ∧ OwCs P B W r l' c2 d.2
end
mutual
/-- the element types of the rows within -/
def Ty.rowsOf (P : Program) : Ty → TypeId → List TypeId
  | .slice e, ti => (match P.underlying ti with | some (.slice te) => te :: e.rowsOf P te | _ => [])
  | .struct fs, ti => (match P.underlying ti with | some (.struct Fs) => fs.rowsOf P Fs.toList | _ => [])
  | .int _, _ => []
  | .bool, _ => []
  | .str, _ => []
def Tys.rowsOf (P : Program) : Tys → List Field → List TypeId
  | .nil, _ => []
  | .cons t r, l => (match l with | f :: l' => t.rowsOf P f.type ++ r.rowsOf P l' | [] => [])
end

/-- of the rows of these types at B or above none has turned -/
def Spared (B : Nat) (X : List TypeId) (W W' : World) : Prop := ∀ k c te fz, B ≤ k → te ∈ X → W.heap[k]? = some (.cells c te fz) → W'.heap[k]? = W.heap[k]?
theorem Spared.less {B : Nat} {X Y : List TypeId} {W W' : World} (h : Spared B X W W') (hs : ∀ t ∈ Y, t ∈ X) : Spared B Y W W' := fun k c te fz hk ht => h k c te fz hk (hs te ht)
theorem Spared.of_kept {B : Nat} {X : List TypeId} {W W' : World} {T : Sq.Blocks} (h : Sq.Kept T W W') (hT : ∀ k, B ≤ k → k < W.heap.size → T k) : Spared B X W W' :=
  fun k c te fz hk _ hh => h.block k (hT k hk (Array.getElem?_eq_some_iff.1 hh).1) (Array.getElem?_eq_some_iff.1 hh).1
theorem Spared.below {B : Nat} {X : List TypeId} {W W' : World} (h : Below W.heap.size W W') : Spared B X W W' :=
  fun k c te fz hk _ hh => h.block k (Array.getElem?_eq_some_iff.1 hh).1
theorem Spared.alloc {B : Nat} {X : List TypeId} (W : World) (o : Go.Obj) : Spared B X W (W.alloc o) := Spared.below ((Below.refl _ _).alloc (Nat.le_refl _) _)
/-- an append to a row of another type -/
theorem Spared.grown {B B' : Nat} {X : List TypeId} {W W' : World} {te : TypeId} {sz m : Nat} {v : Value} {xs : List Value} (hr : W.ownsRow B' te sz v m xs) (hg : W.grownBy W' v.ownBlock) (hX : te ∉ X) : Spared B X W W' := by
  intro k c t' fz hk ht hh
  refine hg.block k (Array.getElem?_eq_some_iff.1 hh).1 (fun e => ?_)
  rcases hr.2 with ⟨rfl, _⟩ | ⟨g, cap, cur, rfl, _, hgb, _⟩
  · simp [Value.ownBlock] at e
  · obtain rfl : k = g := by simpa [Value.ownBlock] using e
    rw [hgb] at hh
    injection hh with hh
    injection hh with _ h2 _
    exact hX (h2 ▸ ht)
/-- a store into an object of another type -/
theorem Spared.set {B : Nat} {X : List TypeId} {W : World} {b : Nat} {t : TypeId} {cs : List Value} (ho : Ob.Obj W b t cs) (j : Nat) (u : Value) (hX : t ∉ X) : Spared B X W (W.setCell ⟨b, j, none⟩ u) := by
  intro k c t' fz hk ht hh
  refine Below.heap_setCell _ _ _ _ (fun e => ?_)
  simp only at e
  subst e
  have := (show W.heap[k]? = _ from ho).symm.trans hh
  injection this with h1
  injection h1 with _ h2 _
  exact hX (h2 ▸ ht)
theorem row_spared {B : Nat} {X : List TypeId} {W W' : World} {te : TypeId} {sz m : Nat} {v : Value} {xs : List Value} (h : W.ownsRow B te sz v m xs) (hs : Spared B X W W') (ht : te ∈ X) : W'.ownsRow B te sz v m xs := by
  rcases h with ⟨h0, h1 | ⟨g, cap, cur, h1, h2, h3, h4⟩⟩
  · exact ⟨h0, .inl h1⟩
  · exact ⟨h0, .inr ⟨g, cap, cur, h1, h2, (hs g _ te _ h2 ht h3).trans h3, h4⟩⟩
theorem row_lower {W : World} {B B' : Nat} {e : TypeId} {sz m : Nat} {v : Value} {xs : List Value} (h : W.ownsRow B e sz v m xs) (hB : B' ≤ B) : W.ownsRow B' e sz v m xs := by
  rcases h with ⟨h0, h1 | ⟨g, cap, cur, h1, h2, h3, h4⟩⟩
  · exact ⟨h0, .inl h1⟩
  · exact ⟨h0, .inr ⟨g, cap, cur, h1, Nat.le_trans hB h2, h3, h4⟩⟩
mutual
theorem OwC.spared {P : Program} {B : Nat} {W W' : World} : ∀ (t : Ty) {ti : TypeId} {cs : List Value} {d : t.Den}, OwC P B W t ti cs d → Spared B (t.rowsOf P ti) W W' → OwC P B W' t ti cs d
  | .int k, _, cs, d, h, _ => h
  | .bool, _, cs, d, h, _ => h
  | .str, _, cs, d, h, _ => h
  | .slice e, ti, cs, d, h, hs => by
    obtain ⟨te, v, hu, h1, rows, h2, h3, h4⟩ := h
    have hro : (Ty.slice e).rowsOf P ti = te :: e.rowsOf P te := by simp only [Ty.rowsOf, hu]
    rw [hro] at hs
    exact ⟨te, v, hu, h1, rows, h2, row_spared h3 hs (List.mem_cons_self ..), fun j hj hj' => ⟨(h4 j hj hj').1, OwC.spared e (h4 j hj hj').2 (hs.less (fun t ht => List.mem_cons_of_mem _ ht))⟩⟩
  | .struct fs, ti, cs, d, h, hs => by
    obtain ⟨Fs, hu, h⟩ := h
    have hro : (Ty.struct fs).rowsOf P ti = fs.rowsOf P Fs.toList := by simp only [Ty.rowsOf, hu]
    rw [hro] at hs
    exact ⟨Fs, hu, OwCs.spared fs h hs⟩
theorem OwCs.spared {P : Program} {B : Nat} {W W' : World} : ∀ (fs : Tys) {l : List Field} {cs : List Value} {d : fs.Den}, OwCs P B W fs l cs d → Spared B (fs.rowsOf P l) W W' → OwCs P B W' fs l cs d
  | .nil, l, cs, d, h, _ => h
  | .cons t r, l, cs, d, h, hs => by
    obtain ⟨f, l', c1, c2, rfl, h2, h3, h4, h5⟩ := h
    have hro : (Tys.cons t r).rowsOf P (f :: l') = t.rowsOf P f.type ++ r.rowsOf P l' := rfl
    rw [hro] at hs
    exact ⟨f, l', c1, c2, rfl, h2, h3, OwC.spared t h4 (hs.less (fun t ht => List.mem_append_left _ ht)), OwCs.spared r h5 (hs.less (fun t ht => List.mem_append_right _ ht))⟩
end
mutual
theorem OwC.lower {P : Program} {B B' : Nat} {W : World} (hB : B' ≤ B) : ∀ (t : Ty) {ti : TypeId} {cs : List Value} {d : t.Den}, OwC P B W t ti cs d → OwC P B' W t ti cs d
  | .int k, _, cs, d, h => h
  | .bool, _, cs, d, h => h
  | .str, _, cs, d, h => h
  | .slice e, ti, cs, d, h => by
    obtain ⟨te, v, hu, h1, rows, h2, h3, h4⟩ := h
    exact ⟨te, v, hu, h1, rows, h2, row_lower h3 hB, fun j hj hj' => ⟨(h4 j hj hj').1, OwC.lower hB e (h4 j hj hj').2⟩⟩
  | .struct fs, ti, cs, d, h => by
    obtain ⟨Fs, hu, h⟩ := h
    exact ⟨Fs, hu, OwCs.lower hB fs h⟩
theorem OwCs.lower {P : Program} {B B' : Nat} {W : World} (hB : B' ≤ B) : ∀ (fs : Tys) {l : List Field} {cs : List Value} {d : fs.Den}, OwCs P B W fs l cs d → OwCs P B' W fs l cs d
  | .nil, l, cs, d, h => h
  | .cons t r, l, cs, d, h => by
    obtain ⟨f, l', c1, c2, rfl, h2, h3, h4, h5⟩ := h
    exact ⟨f, l', c1, c2, rfl, h2, h3, OwC.lower hB t h4, OwCs.lower hB r h5⟩
end
theorem flatten_get {sz : Nat} : ∀ (rows : List (List Value)), (∀ j (h : j < rows.length), rows[j].length = sz) → ∀ j (h : j < rows.length) k, k < sz → rows.flatten[j * sz + k]? = rows[j][k]?
  | [], _, j, h, _, _ => by simp at h
  | r :: rs, hl, 0, _, k, hk => by
    have h0 := hl 0 (by simp)
    simp only [List.getElem_cons_zero] at h0
    rw [List.flatten_cons, Nat.zero_mul, Nat.zero_add, List.getElem?_append_left (by omega)]
    rfl
  | r :: rs, hl, j + 1, h, k, hk => by
    have h0 := hl 0 (by simp)
    simp only [List.getElem_cons_zero] at h0
    have := flatten_get rs (fun i hi => by have := hl (i + 1) (by simpa using hi); simpa using this) j (by simpa using h) k hk
    rw [List.flatten_cons, List.getElem?_append_right (by rw [h0, Nat.succ_mul]; omega), h0, show (j + 1) * sz + k - sz = j * sz + k by rw [Nat.succ_mul]; omega]
    exact this
theorem flatten_len {sz : Nat} : ∀ (rows : List (List Value)), (∀ j (h : j < rows.length), rows[j].length = sz) → rows.flatten.length = rows.length * sz
  | [], _ => by simp
  | r :: rs, hl => by
    have h0 := hl 0 (by simp)
    simp only [List.getElem_cons_zero] at h0
    rw [List.flatten_cons, List.length_append, h0, flatten_len rs (fun i hi => by have := hl (i + 1) (by simpa using hi); simpa using this), List.length_cons, Nat.succ_mul]
    omega
theorem row_at {W : World} {B : Nat} {te : TypeId} {sz m : Nat} {v : Value} {xs : List Value} (h : W.ownsRow B te sz v m xs) :
    ∃ (a : Option Addr) (cap b : Nat), v = .slice a m cap ∧ m ≤ cap ∧ cap ≤ maxLen ∧ (0 < m → a = some ⟨b, 0, none⟩ ∧ B ≤ b ∧ b < W.heap.size ∧ ∀ j, j < m * sz → W.cell? ⟨b, j, none⟩ = xs[j]?) := by
  have hc := h
  rcases h.2 with ⟨rfl, rfl⟩ | ⟨g, cap, cur, rfl, h2, h3, h4, h5, h6⟩
  · exact ⟨none, 0, 0, rfl, Nat.le_refl _, Nat.zero_le _, fun h => by omega⟩
  · refine ⟨_, cap, g, rfl, h4, h5, fun _ => ⟨rfl, h2, (Array.getElem?_eq_some_iff.1 h3).1, fun j hj => ?_⟩⟩
    exact hc.cellAt j hj
mutual
theorem OwC.rd {P : Program} {B : Nat} {W : World} : ∀ (t : Ty) {ti : TypeId} {cs : List Value} {d : t.Den}, OwC P B W t ti cs d → RdC W.heap.size W t cs d
  | .int k, _, cs, d, h => h
  | .bool, _, cs, d, h => h
  | .str, _, cs, d, h => h
  | .slice e, ti, cs, d, h => by
    obtain ⟨te, v, hu, rfl, rows, h2, h3, h4⟩ := h
    obtain ⟨a, cap, b, rfl, g1, g2, g3⟩ := row_at h3
    refine ⟨a, cap, b, 0, rfl, g1, g2, fun h => ⟨(g3 h).1, (g3 h).2.2.1⟩, fun j hj => ?_⟩
    have hj' : j < rows.length := by omega
    obtain ⟨k1, k2⟩ := h4 j hj hj'
    refine ⟨rows[j], k1, fun k hk => ?_, OwC.rd e k2⟩
    have hlt : j * e.size + k < d.length * e.size := by
      have : (j + 1) * e.size ≤ d.length * e.size := Nat.mul_le_mul_right _ (by omega)
      rw [Nat.succ_mul] at this; omega
    rw [Nat.zero_add, (g3 (by omega)).2.2.2 _ hlt, flatten_get rows (fun i hi => (h4 i (by omega) hi).1) j hj' k hk]
  | .struct fs, ti, cs, d, h => by
    obtain ⟨Fs, hu, h⟩ := h
    exact OwCs.rd fs h
theorem OwCs.rd {P : Program} {B : Nat} {W : World} : ∀ (fs : Tys) {l : List Field} {cs : List Value} {d : fs.Den}, OwCs P B W fs l cs d → RdCs W.heap.size W fs cs d
  | .nil, l, cs, d, h => h
  | .cons t r, l, cs, d, h => by
    obtain ⟨f, l', c1, c2, rfl, h2, h3, h4, h5⟩ := h
    exact ⟨c1, c2, h2, h3, OwC.rd t h4, OwCs.rd r h5⟩
end
theorem OwL.nil {W : World} {B : Nat} {te : TypeId} {sz : Nat} {α : Type} {ow : List Value → α → Prop} : OwL W B te sz ow (.slice none 0 0) ([] : List α) :=
  ⟨[], rfl, World.ownsRow_nil _ _ _ _, fun j h => by simp at h⟩
/-- behind the append of one element: its row may lie elsewhere now -/
theorem OwL.snoc {P : Program} {W W2 : World} {B : Nat} {te : TypeId} {e : Ty} {v v2 : Value} {l : List e.Den} {rows : List (List Value)} {cs : List Value} {x : e.Den}
    (hr : rows.length = l.length) (hel : ∀ j (h : j < l.length) (h' : j < rows.length), rows[j].length = e.size ∧ OwC P B W e te rows[j] l[j]) (hx : OwC P B W e te cs x) (hcs : cs.length = e.size)
    (hown : W2.ownsRow B te e.size v2 (l.length + 1) (rows.flatten ++ cs)) (hs : Spared B (e.rowsOf P te) W W2) : OwL W2 B te e.size (OwC P B W2 e te) v2 (l ++ [x]) := by
  refine ⟨rows ++ [cs], by simp [hr], ?_, fun j h h' => ?_⟩
  · rw [List.length_append, List.length_singleton, List.flatten_append]
    simpa using hown
  · by_cases hj : j < l.length
    · rw [List.getElem_append_left hj, List.getElem_append_left (by omega)]
      exact ⟨(hel j hj (by omega)).1, OwC.spared e (hel j hj (by omega)).2 hs⟩
    · obtain rfl : j = l.length := by simp at h; omega
      rw [List.getElem_append_right (Nat.le_refl _), List.getElem_append_right (by omega)]
      simp only [Nat.sub_self, List.getElem_cons_zero, hr]
      exact ⟨hcs, OwC.spared e hx hs⟩
end Gn
end Go.Proofs.Ythcllaombabpbaa

/-
  Rows of versions that the call itself has made: appended to, read.
-/
namespace Go.Proofs.Ythcllaombabpbaa
open Go.RowKit
set_option linter.unusedVariables false

theorem info_Version : (Try.prog.info? 44).map (fun i => (i.zero, i.size, i.bytes)) = some (some (.agg #[.string ⟨#[]⟩, .int .u64 0, .bool false, .string ⟨#[]⟩]), 4, 48) := by kernel_rfl

namespace Vs
open Mt (Ver VerIn verV)
theorem cell_four_new (w : World) (a b c d : Value) (t : TypeId) : ∀ j u, [a, b, c, d][j]? = some u → (w.alloc (.cells #[a, b, c, d] t)).cell? ((⟨w.heap.size, 0, none⟩ : Addr).add j) = some u := by
  intro j u hj
  match j, hj with
  | 0, hj => simp at hj; subst hj; simp [Addr.add]
  | 1, hj => simp at hj; subst hj; simp [Addr.add]
  | 2, hj => simp at hj; subst hj; simp [Addr.add]
  | 3, hj => simp at hj; subst hj; simp [Addr.add]
  | (j + 4), hj => simp at hj
def vC (x : Ver) : List Value := [.string (Cd.bs x.key), .int .u64 x.seq, .bool x.del, .string (Cd.bs x.val)]
def vcs (L : List Ver) : List Value := (L.map vC).flatten
theorem vcs_snoc (L : List Ver) (x : Ver) : vcs (L ++ [x]) = vcs L ++ [.string (Cd.bs x.key), .int .u64 x.seq, .bool x.del, .string (Cd.bs x.val)] := by simp [vcs, vC]
/-- such a row is read as versions -/
theorem vers_of_own {W : World} {B : Nat} {te : TypeId} {v : Value} {L : List Ver} (h : W.ownsRow B te 4 v L.length (vcs L)) : Vers W.heap.size W v L := by
  obtain ⟨a, cap, b, rfl, _, _, h3⟩ := Gn.row_at h
  refine ⟨a, cap, b, 0, rfl, fun h => ⟨(h3 h).1, (h3 h).2.2.1⟩, fun j hj => ?_⟩
  obtain ⟨_, _, _, hc⟩ := h3 (by omega)
  have hg : ∀ k, k < 4 → W.cell? ⟨b, j * 4 + k, none⟩ = (vC L[j])[k]? := fun k hk => by
    rw [hc (j * 4 + k) (by omega)]
    have := Gn.flatten_get (sz := 4) (L.map vC) (fun i hi => by simp [vC]) j (by simpa using hj) k hk
    unfold vcs
    rw [this]
    simp
  have e : 0 + j * 4 = j * 4 := by omega
  rw [e]
  exact ⟨hg 0 (by decide), hg 1 (by decide), hg 2 (by decide), hg 3 (by decide)⟩
end Vs
end Go.Proofs.Ythcllaombabpbaa

/-
  Rows of pairs; the document's SamePairs (tapestryref09).
-/
namespace Go.Proofs.Ythcllaombabpbaa
open Go.RowKit
set_option linter.unusedSimpArgs false
set_option linter.unusedVariables false
namespace Mg
open Mt (Ver mayB lessB placeB VerIn verV)
open Vs (Vers At)
open Tb (ver0 getD_at own_after)
abbrev Pr : Type := List UInt8 × List UInt8
def pC (x : Pr) : List Value := [.string (Cd.bs x.1), .string (Cd.bs x.2)]
def pcs (L : List Pr) : List Value := (L.map pC).flatten
theorem pcs_snoc (L : List Pr) (x : Pr) : pcs (L ++ [x]) = pcs L ++ [.string (Cd.bs x.1), .string (Cd.bs x.2)] := by simp [pcs, pC]
/-- pairs in a row, in blocks below B -/
def Prs (B : Nat) (W : World) (v : Value) (L : List Pr) : Prop :=
  ∃ (a : Option Addr) (cap b off : Nat), v = .slice a L.length cap ∧ (0 < L.length → a = some ⟨b, off, none⟩ ∧ b < B) ∧ ∀ j (h : j < L.length), W.cell? ⟨b, off + j * 2, none⟩ = some (.string (Cd.bs L[j].1)) ∧ W.cell? ⟨b, off + j * 2 + 1, none⟩ = some (.string (Cd.bs L[j].2))
theorem Prs.grow {B B' : Nat} {W W' : World} {v : Value} {L : List Pr} (h : Prs B W v L) (hb : Below B W W') (hB : B ≤ B') : Prs B' W' v L := by
  obtain ⟨a, cap, b, off, h1, h2, h3⟩ := h
  exact ⟨a, cap, b, off, h1, fun h => ⟨(h2 h).1, Nat.lt_of_lt_of_le (h2 h).2 hB⟩, fun j hj => ⟨(hb.cell (p := ⟨b, off + j * 2, none⟩) (h2 (by omega)).2).trans (h3 j hj).1, (hb.cell (p := ⟨b, off + j * 2 + 1, none⟩) (h2 (by omega)).2).trans (h3 j hj).2⟩⟩
theorem prs_of_own {W : World} {B : Nat} {te : TypeId} {v : Value} {L : List Pr} (h : W.ownsRow B te 2 v L.length (pcs L)) : Prs W.heap.size W v L := by
  obtain ⟨a, cap, b, rfl, _, _, h3⟩ := Gn.row_at h
  refine ⟨a, cap, b, 0, rfl, fun h => ⟨(h3 h).1, (h3 h).2.2.1⟩, fun j hj => ?_⟩
  obtain ⟨_, _, _, hc⟩ := h3 (by omega)
  have hg : ∀ k, k < 2 → W.cell? ⟨b, j * 2 + k, none⟩ = (pC L[j])[k]? := fun k hk => by
    rw [hc (j * 2 + k) (by omega)]
    have := Gn.flatten_get (sz := 2) (L.map pC) (fun i hi => by simp [pC]) j (by simpa using hj) k hk
    unfold pcs
    rw [this]
    simp
  have e : 0 + j * 2 = j * 2 := by omega
  rw [e]
  exact ⟨hg 0 (by decide), hg 1 (by decide)⟩

set_option maxRecDepth 100000 in
set_option maxHeartbeats 4000000 in
theorem samePairs_eq (u v : Value) (L : List Pr) (w : World) (hU : Prs w.heap.size w u L) (hV : Prs w.heap.size w v L) (hL : L.length ≤ 4611686018427387904) :
    Calls Try.prog 19 #[u, v] w fun e w' => e = .returned (.bool true) ∧ Below w.heap.size w w' := by
  obtain ⟨a, cap, fb, fo, rfl, ha, hcells⟩ := hU
  obtain ⟨a', cap', gb, go', rfl, ha', hcells'⟩ := hV
  have HC := Lib.hid hcells
  have HD := Lib.hid hcells'
  clear hcells hcells'
  go_enter Try.func19, Try.ntmps19
  go_wp2_with fail
  go_loopw [5] (fun i wr => ∃ q : Nat, q ≤ L.length ∧ i = .int .i64 (q : Int) ∧ Below w.heap.size w wr) (fun i _ => L.length - (intOf i).toNat)
  case atStart => exact ⟨0, Nat.zero_le _, rfl, Below.refl _ _⟩
  case round =>
    obtain ⟨q, hq, rfl, hB⟩ := hrel
    by_cases hlt : q < L.length
    · obtain ⟨rfl, hfb⟩ := ha (by omega)
      obtain ⟨rfl, hgb⟩ := ha' (by omega)
      obtain ⟨e0, e1⟩ := HC.out q hlt
      obtain ⟨d0, d1⟩ := HD.out q hlt
      replace e0 := (hB.cell (p := ⟨fb, fo + q * 2, none⟩) hfb).trans e0
      replace e1 := (hB.cell (p := ⟨fb, fo + q * 2 + 1, none⟩) hfb).trans e1
      replace d0 := (hB.cell (p := ⟨gb, go' + q * 2, none⟩) hgb).trans d0
      replace d1 := (hB.cell (p := ⟨gb, go' + q * 2 + 1, none⟩) hgb).trans d1
      have hi1 : (0 : Int) ≤ (q : Int) ∧ (q : Int) < (L.length : Int) := by omega
      generalize L[q] = x at *
      obtain ⟨x1, x2⟩ := x
      simp only at e0 e1 d0 d1
      go_wp2_with fail
      go_big_quiet (fail)
      go_wp2_with fail
      go_roundw
      case rel => exact ⟨q + 1, by omega, by go_num, belowN hB _⟩
      case measure => simp [intOf]; omega
    · obtain rfl : q = L.length := by omega
      go_wp2_with fail
      go_ret
      exact ⟨rfl, hB⟩
end Mg
end Go.Proofs.Ythcllaombabpbaa

/-
  The document's answer of what is seen (tapestryref09.Pairs).
-/
namespace Go.Proofs.Ythcllaombabpbaa
open Go.RowKit
set_option linter.unusedSimpArgs false
set_option linter.unusedVariables false
namespace Tb
theorem lower_row {W : World} {b c sz m : Nat} {e : TypeId} {v : Value} {xs : List Value} (h : W.ownsRow c e sz v m xs) (hb : b ≤ c) : W.ownsRow b e sz v m xs := by
  refine ⟨h.1, ?_⟩
  rcases h.2 with h1 | ⟨g, cap, cur, h1, h2, h3⟩
  · exact .inl h1
  · exact .inr ⟨g, cap, cur, h1, Nat.le_trans hb h2, h3⟩
end Tb
namespace Mg
open Mt (Ver mayB lessB placeB VerIn verV)
open Vs (Vers At vcs)
open Tb (ver0 getD_at own_after)
theorem info_Pair : (Try.prog.info? 78).map (fun i => (i.zero, i.size, i.bytes)) = some (some (.agg #[.string ⟨#[]⟩, .string ⟨#[]⟩]), 2, 32) := by kernel_rfl
theorem info_Ver9 : (Try.prog.info? 44).map (fun i => (i.zero, i.size, i.bytes)) = some (some (.agg #[.string ⟨#[]⟩, .int .u64 0, .bool false, .string ⟨#[]⟩]), 4, 48) := by kernel_rfl

/-- behind so many groups -/
def prI (S : List Ver) (seq : Int) (lo : List UInt8) (w1 : World) (o k : Value) (wr : World) : Prop :=
  ∃ (q A : Nat), q < (grp S).length ∧ (grp S)[q]? = some A ∧ k = .int .i64 (q : Int) ∧ wr.ownsRow w1.heap.size 78 2 o (prN seq lo S A).1.length (pcs (prN seq lo S A).1) ∧ Below w1.heap.size w1 wr

end Mg
end Go.Proofs.Ythcllaombabpbaa
/-
  tapestrylaw09: rows as sequences, and what is told by a sequence (row, list).
-/
namespace Go.Proofs.Ythcllaombabpbaa
open Go.RowKit Go.Shelf
set_option linter.unusedSimpArgs false
set_option linter.unusedVariables false
namespace Mg
open Mt (Ver mayB lessB placeB VerIn verV)
open Vs (Vers At vcs)
open Tb (ver0 getD_at own_after lower_row)

attribute [local go_sem] Oper.semAt_some
abbrev vEnc9 (x : Ver) : Array Value := #[.agg #[.string (Cd.bs x.key), .int .u64 x.seq, .bool x.del, .string (Cd.bs x.val)]]
/-- A FUNCTION VALUE THAT TELLS THIS LIST, wherever the blocks of T stand as they do. -/
def Tells (w : World) (v : Value) (L : List Ver) (T : Sq.Blocks) : Prop :=
  ∃ (gf : Nat) (lb : Array Value), v = .func (.func gf) #[] lb ∧ (∀ args w, (callFunc gf args).run Try.prog w = .ok (.enter gf args) w) ∧ (∀ k, T k → k < w.heap.size) ∧
    ∀ W, Sq.Kept T w W → Sq.SeqC Fence.wide 11 Try.prog gf lb vEnc9 T (fun ys => ys = L) (fun pre => pre <+: L) W
theorem Tells.kept {w w' : World} {v : Value} {L : List Ver} {T : Sq.Blocks} (h : Tells w v L T) (hk : Sq.Kept T w w') : Tells w' v L T := by
  obtain ⟨gf, lb, h1, h2, h3, h4⟩ := h
  exact ⟨gf, lb, h1, h2, fun k hk' => Nat.lt_of_lt_of_le (h3 k hk') hk.size, fun W hW => h4 W (hk.trans hW)⟩
theorem wpListIn_append_lies {F : Fence} {n : Nat} {P : Program} (w : World) {ops : Array Oper} {rest : List Oper} {o : Oper} {a : Act} {Q : Exit → Act → World → Prop}
    (hg : o.guard = none) (s x : Operand) (t : TypeId) (hop : o.op = Op.call { callee := Callee.builtin Builtin.append, args := #[s, x], argTypes := #[t, t] })
    (base : Nat) (e : TypeId) (i : TypeInfo) (z : Value) (size bytes : Nat) (h1 : P.underlying t = some (.slice e)) (h2 : P.info? e = some i) (h3 : i.zero = some z) (h4 : i.size = size) (h5 : i.bytes = bytes) (h6 : z.cells.size = size) (h7 : 0 < size)
    (v : Value) (k : Nat) (xs : List Value) (hs : a.eval s = v) (hown : w.ownsRow base e size v k xs) (ad : Addr) (m c : Nat) (news : List Value) (hx : a.eval x = .slice (some ad) m c) (hn : news.length = m * size)
    (hc : ∀ j u, news[j]? = some u → w.cell? (ad.add j) = some u) (h1c : ∀ u ∈ news, u.oneCell' = true) (hm : 0 < m) (b1 : k + m ≤ maxLen) (b2 : (k + m) * bytes ≤ 140737488355328) (b3 : base ≤ w.heap.size) (H : Nat) (hH : w.heap.size = H)
    (hK : ∀ g cap w', w'.ownsRow base e size (.slice (some ⟨g, 0, none⟩) (k + m) cap) (k + m) (xs ++ news) → w.grownBy w' v.ownBlock → (v.ownBlock = some g ∨ g = H) → g < w'.heap.size → wpListIn F n P ops Q rest (a.put o.dst (.slice (some ⟨g, 0, none⟩) (k + m) cap)) w') :
    wpListIn F n P ops Q (o :: rest) a w := by
  refine wpListIn_plain hg fun K hK' => ?_
  obtain ⟨g, cap, w', hrun, r1, r2, r3, r4⟩ := run_append_lies (P := P) w t o.type base e i z size bytes h1 h2 h3 h4 h5 h6 h7 v k xs hown ad m c news hn hc h1c hm b1 b2 b3 H hH
  unfold Oper.wpIn
  refine ⟨?_, ?_⟩
  · simp [Oper.about, hop, resolve, Target.leads, Sem.run_pure]
  · rw [Oper.semAt_plain F _ _ (by rw [hop]; intro c hc'; cases hc')]
    simp [execOp, hop, resolve, invoke, builtin, hs, hx, hrun, Result.andThen]
    exact hK' _ _ (hK g cap w' r1 r2 r3 r4)
theorem row_lower {w : World} {base base' : Nat} {e : TypeId} {size : Nat} {v : Value} {m : Nat} {xs : List Value} (h : w.ownsRow base e size v m xs) (hb : base' ≤ base) : w.ownsRow base' e size v m xs := by
  rcases h with ⟨h0, h1 | ⟨g, cap, cur, h1, h2, h3, h4⟩⟩
  · exact ⟨h0, .inl h1⟩
  · exact ⟨h0, .inr ⟨g, cap, cur, h1, Nat.le_trans hb h2, h3, h4⟩⟩
/-- what stands between the rounds of such a range -/
def frI (w : World) (most : Int) (R : Sq.Blocks) (pre : List Ver) (X : World) : Prop :=
  ∃ u, ((Boxed X (w.heap.size + 1) 28 u ∧ ¬ R (w.heap.size + 1)) ∧ (X.ownsRow (w.heap.size + 2) 44 4 u pre.length (vcs pre) ∧ ∀ g, u.ownBlock = some g → ¬ R g)) ∧
    (Boxed X w.heap.size 3 (.int .i64 most) ∧ ¬ R w.heap.size) ∧ (Sq.Kept (fun k => k < w.heap.size) w X ∧ ∀ k, k < w.heap.size → k < w.heap.size → ¬ R k)
theorem frI_steady (w : World) (most : Int) : Sq.Steady (frI w most) :=
  Sq.Steady.ex fun u => ((Sq.Steady.box _ _ _).and (Sq.Steady.row _ _ _ (fun _ => u) _ _)).and ((Sq.Steady.box _ _ _).and (Sq.Steady.kept _ _))
/-- one more is told -/
theorem frI_next {w X X1 X2 : World} {most : Int} {R : Sq.Blocks} {pre : List Ver} {x : Ver} {u : Value} {g cap : Nat}
    (hb : Boxed X (w.heap.size + 1) 28 u) (hnb : ¬ R (w.heap.size + 1)) (hrow : X.ownsRow (w.heap.size + 2) 44 4 u pre.length (vcs pre)) (hnr : ∀ g, u.ownBlock = some g → ¬ R g)
    (hbn : Boxed X w.heap.size 3 (.int .i64 most)) (hnn : ¬ R w.heap.size) (hk : Sq.Kept (fun k => k < w.heap.size) w X) (hnk : ∀ k, k < w.heap.size → k < w.heap.size → ¬ R k)
    (hbd : ∀ k, R k → k < X.heap.size) {T : Sq.Blocks} (hT : ∀ k, T k → k < w.heap.size) (hX1 : Sq.Kept (fun _ => True) X X1) (hs1 : X1.heap.size = X.heap.size + 1)
    (hown2 : X2.ownsRow (w.heap.size + 2) 44 4 (.slice (some ⟨g, 0, none⟩) (pre.length + 1) cap) (pre.length + 1) (vcs pre ++ [.string (Cd.bs x.key), .int .u64 x.seq, .bool x.del, .string (Cd.bs x.val)]))
    (hgrow : X1.grownBy X2 u.ownBlock) (hat : u.ownBlock = some g ∨ g = X.heap.size + 1) :
    Boxed X2 (w.heap.size + 1) 28 u ∧ Boxed X2 w.heap.size 3 (.int .i64 most) ∧
    frI w most R (pre ++ [x]) (X2.setCell ⟨w.heap.size + 1, 0, none⟩ (.slice (some ⟨g, 0, none⟩) (pre.length + 1) cap)) ∧
    Sq.Kept (fun k => R k ∨ T k) X (X2.setCell ⟨w.heap.size + 1, 0, none⟩ (.slice (some ⟨g, 0, none⟩) (pre.length + 1) cap)) := by
  have hge : ∀ r, u.ownBlock = some r → w.heap.size + 2 ≤ r := fun r hr => (Ob.row_lt hrow hr).1
  have hKg : Sq.Kept (fun k => ∀ r, u.ownBlock = some r → k ≠ r) X1 X2 := Sq.Kept.grown hgrow (fun r hr h => h r hr rfl)
  have hK2 : Sq.Kept (fun k => ∀ r, u.ownBlock = some r → k ≠ r) X X2 := (hX1.less (fun _ _ _ => trivial)).trans hKg
  have hb2 := hK2.boxed (fun r hr e => by have := hge r hr; omega) hb
  have hbn2 := hK2.boxed (fun r hr e => by have := hge r hr; omega) hbn
  have hk2 : Sq.Kept (fun k => k < w.heap.size) w X2 := hk.trans (hK2.less (fun k hk _ r hr e => by have := hge r hr; have : k < w.heap.size := hk; omega))
  refine ⟨hb2, hbn2, ?_, ?_⟩
  · refine ⟨_, ⟨⟨hb2.set _, hnb⟩, ?_, ?_⟩, ⟨hbn2.other (by simp) _, hnn⟩, hk2.trans (Sq.Kept.setCell _ _ (by simp)), hnk⟩
    · rw [Vs.vcs_snoc, List.length_append, List.length_singleton]
      refine Ob.row_other hown2 (fun e => ?_) _
      have := (Ob.row_lt hown2 e).1
      simp at this
    · intro g' hg'
      obtain rfl : g = g' := by simpa [Value.ownBlock] using hg'
      rcases hat with h | h
      · exact hnr g h
      · intro hr; have := hbd g hr; omega
  · refine (hK2.less (fun k hk hl r hr e => ?_)).trans (Sq.Kept.setCell _ _ (by
      rintro (h | h)
      · exact hnb h
      · have := hT _ h; simp at this; omega))
    subst e
    rcases hk with h | h
    · exact hnr k hr h
    · have := hge k hr; have := hT k h; omega
/-- what is told, left behind so many -/
def cutL (L : List Ver) (most : Int) : List Ver := if 0 < most then L.take most.toNat else L

theorem cutL_all {L : List Ver} {most : Int} (h : most ≤ 0 ∨ (L.length : Int) < most) : cutL L most = L := by
  unfold cutL
  rcases h with h | h
  · rw [if_neg (by omega)]
  · rw [if_pos (by omega), List.take_of_length_le (by omega)]
theorem cutL_some {L pre : List Ver} {most : Int} (h : pre <+: L) (h0 : 0 < most) (hm : (pre.length : Int) = most) : cutL L most = pre := by
  unfold cutL
  rw [if_pos h0, show most.toNat = pre.length by omega]
  exact (List.prefix_iff_eq_take.1 h).symm

set_option maxRecDepth 100000 in
set_option maxHeartbeats 4000000 in
theorem list_any (sv : Value) (most : Int) (L : List Ver) (T : Sq.Blocks) (w : World) (hm : -9223372036854775808 ≤ most ∧ most ≤ 9223372036854775807) (hL : L.length ≤ 1099511627776) (hS : Tells w sv L T) :
    Calls Try.prog 10 #[sv, .int .i64 most] w fun e w' => ∃ u, e = .returned u ∧ w'.ownsRow w.heap.size 44 4 u (cutL L most).length (vcs (cutL L most)) ∧ Below w.heap.size w w' := by
  obtain ⟨i0, hi, hz0, hz1, hz2⟩ := info_parts info_Ver9
  obtain ⟨gf, lb, rfl, hent, hTl, hsq⟩ := hS
  refine (callsIn_wide (n := 12)).1 ?_
  refine callsIn_of_wp_marks Try.func10 rfl trivial ?_ rfl
  refine wpIn_wide.2 ?_
  simp only [Try.ntmps10, List.size_toArray, List.length_cons, List.length_nil, Nat.reduceAdd, Nat.reduceSub, Array.replicate_succ, Array.replicate_zero, List.push_toArray, List.append_toArray, List.nil_append, List.cons_append]
  go_wp2_with fail
  have hB1 : Below w.heap.size w ((w.alloc (.cells #[.int .i64 most] 3)).alloc (.cells #[.slice none 0 0] 28)) := ((Below.refl _ _).alloc (Nat.le_refl _) _).alloc (by simp) _
  have bN : Boxed ((w.alloc (.cells #[.int .i64 most] 3)).alloc (.cells #[.slice none 0 0] 28)) w.heap.size 3 (.int .i64 most) := (Boxed.new w _ _).alloc _
  have bL : Boxed ((w.alloc (.cells #[.int .i64 most] 3)).alloc (.cells #[.slice none 0 0] 28)) (w.heap.size + 1) 28 (.slice none 0 0) := by
    have := Boxed.new (w.alloc (.cells #[.int .i64 most] 3)) 28 (.slice none 0 0)
    rwa [World.size_alloc] at this
  have hsq1 := hsq _ ((Sq.Kept.alloc T w (.cells #[.int .i64 most] 3)).trans (Sq.Kept.alloc T _ (.cells #[.slice none 0 0] 28)))
  generalize (w.alloc (.cells #[.int .i64 most] 3)).alloc (.cells #[.slice none 0 0] 28) = w1 at *
  have hsz1 := bL.lt
  refine (wpIn_wide (n := 12)).1 ?_
  refine Sq.wp_range rfl (by omega) (gf := gf) (lb := lb) rfl trivial hent
    hsq1 (fun k hk => by have := hTl k hk; omega) (fun _ => rfl)
    (fun R pre X => frI w most R pre X ∧ (most ≤ 0 ∨ (pre.length : Int) < most))
    (fun c R pre X => frI w most R pre X ∧ (c = .exit 0 ∧ 0 < most ∧ (pre.length : Int) = most))
    (fun a' x R pre X => (frI w most R pre X ∧ (most ≤ 0 ∨ (pre.length : Int) < most)) ∧ ∃ Bf, (X.heap[Bf]? = some (.cells #[.string (Cd.bs x.key), .int .u64 x.seq, .bool x.del, .string (Cd.bs x.val)] 44 (0, 0)) ∧ ¬ R Bf) ∧
      a' = { tmps := #[.func (.func gf) #[] lb, .int .i64 most, undef, .pointer (some ⟨w.heap.size, 0, none⟩), .slice none 0 0, .pointer (some ⟨w.heap.size + 1, 0, none⟩), .pointer (some ⟨Bf, 0, none⟩), .func (.func gf) #[] lb, .agg #[.string (Cd.bs x.key), .int .u64 x.seq, .bool x.del, .string (Cd.bs x.val)], undef, undef, undef, undef, undef, undef, undef, undef, undef], defers := [] })
    ((frI_steady w most).and (Sq.Steady.pure _))
    (fun c => (frI_steady w most).and (Sq.Steady.pure _))
    (fun a' x => ((frI_steady w most).and (Sq.Steady.pure _)).and (Sq.Steady.ex fun Bf => (Sq.Steady.obj _ _).and (fun _ _ _ _ _ hs _ => hs)))
    ⟨⟨_, ⟨⟨bL, fun h => h⟩, World.ownsRow_nil _ _ _ _, fun _ h => by simp [Value.ownBlock] at h⟩, ⟨bN, fun h => h⟩, ⟨hB1.os, hB1.tape, hB1.output, hB1.size, fun k hk _ => hB1.block k hk⟩, fun _ _ _ h => h⟩, by
      by_cases h : 0 < most
      · exact .inr h
      · exact .inl (by omega)⟩ ?assign ?body ?done ?stop
  case assign =>
    rintro lr R pre x X hbd hsp ⟨hI, hm⟩
    gi_wp2
    refine ⟨Sq.Kept.alloc _ _ _, ⟨frI_steady w most _ _ _ _ _ hI (Sq.Step.alloc0 _ _ _), hm⟩, X.heap.size, ⟨World.alloc_heap_new X _, fun h => by have := hbd _ h; omega⟩, ?_⟩
    first | rfl | trivial
  case body =>
    rintro lr R pre x a' X hRl hrec hbd hsp ⟨⟨hI, hm⟩, Bf, ⟨hf, hnf⟩, rfl⟩
    obtain ⟨u, ⟨⟨hb, hnb⟩, hrow, hnr⟩, ⟨hbn, hnn⟩, hk, hnk⟩ := hI
    have hcf0 : X.cell? ⟨Bf, 0, none⟩ = some (.string (Cd.bs x.key)) := by simp [World.cell?, hf]
    have hcf1 : X.cell? ⟨Bf, 1, none⟩ = some (.int .u64 x.seq) := by simp [World.cell?, hf]
    have hcf2 : X.cell? ⟨Bf, 2, none⟩ = some (.bool x.del) := by simp [World.cell?, hf]
    have hcf3 : X.cell? ⟨Bf, 3, none⟩ = some (.string (Cd.bs x.val)) := by simp [World.cell?, hf]
    have hc0 := hb.cell
    have hfl : pre.length + 1 ≤ L.length := by have := hsp.length_le; simpa using this
    have hX2 : w.heap.size + 2 ≤ X.heap.size := by have := (hbd lr hRl).1; have := (hbd lr hRl).2; omega
    have hPL : Hid (pre.length + 1 = (pre ++ [x]).length) := Lib.hid (by simp)
    have HNX := Lib.hid (fun X1 X2 g cap (h1 : Sq.Kept (fun _ => True) X X1) (h2 : X1.heap.size = X.heap.size + 1) h3 h4 h5 => frI_next (x := x) (X1 := X1) (X2 := X2) (g := g) (cap := cap) hb hnb hrow hnr hbn hnn hk hnk (fun k hk => (hbd k hk).2) hTl h1 h2 h3 h4 h5)
    have hrow' := hrow.alloc (.cells #[.string (Cd.bs x.key), .int .u64 x.seq, .bool x.del, .string (Cd.bs x.val)] 44)
    have HM := Lib.hid hm
    clear hb hnb hrow hnr hbn hnn hk hnk hm hsp
    by_cases hlast : (pre.length : Int) + 1 = most
    · have hl1 : ((pre.length : Int) + 1 == most) = true := by simpa using hlast
      have HL := Lib.hid hlast
      clear hlast
      gi_wp2_with (refine wpListIn_append_lies _ rfl _ _ 28 rfl (w.heap.size + 2) 44 i0 (.agg #[.string ⟨#[]⟩, .int .u64 0, .bool false, .string ⟨#[]⟩]) 4 48 Try.underlying28 hi hz0 hz1 hz2 rfl (by decide) _ _ _ rfl hrow' ⟨X.heap.size, 0, none⟩ 1 1 [_, _, _, _] rfl rfl (by simpa using Vs.cell_four_new X _ _ _ _ _) (by simp [Value.oneCell']) (by decide) (by unfold maxLen; omega) (by omega) (by simp; omega) (X.heap.size + 1) (by simp) ?_; intro g cap X2 hown2 hgrow hat hlt2; obtain ⟨z1, z2, z3, z4⟩ := HNX.out _ X2 g cap (Sq.Kept.alloc _ _ _) (by simp) hown2 hgrow hat; have Z3 := Lib.hid z3; have Z4 := Lib.hid z4; have q1 := z1.cell; have q2 := z1.frozen; have q3 := z1.lt; have q4 := z2.cell; clear z1 z2 z3 z4 hown2 hgrow hat)
      exact ⟨Z4.out, Z3.out, rfl, by have := HL.out; omega, by rw [← hPL.out]; have := HL.out; omega⟩
    · have hl1 : ((pre.length : Int) + 1 == most) = false := by simpa using hlast
      have HL := Lib.hid hlast
      clear hlast
      gi_wp2_with (refine wpListIn_append_lies _ rfl _ _ 28 rfl (w.heap.size + 2) 44 i0 (.agg #[.string ⟨#[]⟩, .int .u64 0, .bool false, .string ⟨#[]⟩]) 4 48 Try.underlying28 hi hz0 hz1 hz2 rfl (by decide) _ _ _ rfl hrow' ⟨X.heap.size, 0, none⟩ 1 1 [_, _, _, _] rfl rfl (by simpa using Vs.cell_four_new X _ _ _ _ _) (by simp [Value.oneCell']) (by decide) (by unfold maxLen; omega) (by omega) (by simp; omega) (X.heap.size + 1) (by simp) ?_; intro g cap X2 hown2 hgrow hat hlt2; obtain ⟨z1, z2, z3, z4⟩ := HNX.out _ X2 g cap (Sq.Kept.alloc _ _ _) (by simp) hown2 hgrow hat; have Z3 := Lib.hid z3; have Z4 := Lib.hid z4; have q1 := z1.cell; have q2 := z1.frozen; have q3 := z1.lt; have q4 := z2.cell; clear z1 z2 z3 z4 hown2 hgrow hat)
      exact ⟨Z4.out, Z3.out, by rw [← hPL.out]; have := HL.out; rcases HM.out with h | h; exact .inl h; exact .inr (by omega)⟩
  case done =>
    rintro D R ys X hD hRD rfl ⟨hI, hm⟩ hdf
    obtain ⟨u, ⟨⟨hb, hnb⟩, hrow, hnr⟩, ⟨hbn, hnn⟩, hk, hnk⟩ := hI
    have HC := Lib.hid (cutL_all hm)
    have hc0 := hb.cell
    have HR := Lib.hid (Sq.row_kept (row_lower hrow (by omega : w.heap.size ≤ w.heap.size + 2)) (Sq.Kept.putObj (T := fun k => k ≠ D) X (l := D) (.deferred none) (by simp)) (fun g hg e => hnr g hg (e ▸ hRD)))
    have HB := Lib.hid ((hk.trans (Sq.Kept.putObj X (l := D) (.deferred none) (by omega))).below (fun _ h => h) (Nat.le_refl _))
    clear hb hrow hk hnk hbn hm hnr
    gi_wp2
    go_wp2_with fail
    refine ⟨by simp, .inl ⟨_, _, rfl, run_takeDeferred hdf, ?_⟩⟩
    exact ⟨_, results_tmp rfl _ _ _, u, rfl, by rw [HC.out]; exact HR.out, HB.out⟩
  case stop =>
    rintro D R c pre X hD hRD hsp ⟨hI, rfl, hm0, hm⟩ hdf
    obtain ⟨u, ⟨⟨hb, hnb⟩, hrow, hnr⟩, ⟨hbn, hnn⟩, hk, hnk⟩ := hI
    have HC := Lib.hid (cutL_some hsp hm0 hm)
    have hc0 := hb.cell
    have HR := Lib.hid (Sq.row_kept (row_lower hrow (by omega : w.heap.size ≤ w.heap.size + 2)) (Sq.Kept.putObj (T := fun k => k ≠ D) X (l := D) (.deferred none) (by simp)) (fun g hg e => hnr g hg (e ▸ hRD)))
    have HB := Lib.hid ((hk.trans (Sq.Kept.putObj X (l := D) (.deferred none) (by omega))).below (fun _ h => h) (Nat.le_refl _))
    clear hb hrow hk hnk hbn hm hnr
    gi_wp2
    go_wp2_with fail
    refine ⟨by simp, .inl ⟨_, _, rfl, run_takeDeferred hdf, ?_⟩⟩
    exact ⟨_, results_tmp rfl _ _ _, u, rfl, by rw [HC.out]; exact HR.out, HB.out⟩
end Mg
end Go.Proofs.Ythcllaombabpbaa

/-
  Plain mathematics of chapter 9 (merge): several rows as one.
-/
namespace Go.Proofs.Ythcllaombabpbaa
open Go.RowKit
namespace Mg
open Mt (Ver mayB lessB placeB VerIn verV)
/-- the one at hand of a row -/
def hd (Ls : List (List Ver)) (A : List Nat) (j : Nat) : Option Ver := (Ls.getD j [])[A.getD j 0]?
/-- the better one of two -/
def pk (b h : Option Ver) : Option Ver := match h, b with
  | none, b => b
  | some x, none => some x
  | some x, some y => some (if lessB x y = true then x else y)
/-- the best one of the first i rows -/
def pickA (Ls : List (List Ver)) (A : List Nat) (i : Nat) : Option Ver := (List.range i).foldl (fun b j => pk b (hd Ls A j)) none
def hit (Ls : List (List Ver)) (A : List Nat) (v : Ver) (j : Nat) : Bool := match hd Ls A j with
  | some x => placeB x v
  | none => false
/-- the first i rows gone on behind v -/
def advN (Ls : List (List Ver)) (A : List Nat) (v : Ver) (i : Nat) : List Nat := (List.range i).foldl (fun B j => if hit Ls A v j = true then B.set j (A.getD j 0 + 1) else B) A
def left (Ls : List (List Ver)) (A : List Nat) : Nat := ((List.range Ls.length).map fun j => (Ls.getD j []).length - A.getD j 0).sum
def mergeA : Nat → List (List Ver) → List Nat → List Ver
  | 0, _, _ => []
  | n + 1, Ls, A => match pickA Ls A Ls.length with
    | none => []
    | some v => v :: mergeA n Ls (advN Ls A v Ls.length)
def zeros (Ls : List (List Ver)) : List Nat := List.replicate Ls.length 0
/-- P9.1 -/
def merge (Ls : List (List Ver)) : List Ver := mergeA (left Ls (zeros Ls)) Ls (zeros Ls)

theorem pickA_succ (Ls : List (List Ver)) (A : List Nat) (i : Nat) : pickA Ls A (i + 1) = pk (pickA Ls A i) (hd Ls A i) := by
  unfold pickA; rw [List.range_succ, List.foldl_append]; rfl
theorem advN_succ (Ls : List (List Ver)) (A : List Nat) (v : Ver) (i : Nat) : advN Ls A v (i + 1) = if hit Ls A v i = true then (advN Ls A v i).set i (A.getD i 0 + 1) else advN Ls A v i := by
  unfold advN; rw [List.range_succ, List.foldl_append]; rfl
theorem advN_len (Ls : List (List Ver)) (A : List Nat) (v : Ver) : ∀ i, (advN Ls A v i).length = A.length
  | 0 => rfl
  | i + 1 => by
    rw [advN_succ]
    split
    · rw [List.length_set]; exact advN_len Ls A v i
    · exact advN_len Ls A v i
theorem advN_get (Ls : List (List Ver)) (A : List Nat) (v : Ver) (j : Nat) (hj : j < A.length) : ∀ i, (advN Ls A v i).getD j 0 = if j < i ∧ hit Ls A v j = true then A.getD j 0 + 1 else A.getD j 0
  | 0 => by simp [advN]
  | i + 1 => by
    rw [advN_succ]
    have ih := advN_get Ls A v j hj i
    have hl := advN_len Ls A v i
    split
    · rename_i h
      by_cases hij : i = j
      · subst hij
        have : ((advN Ls A v i).set i (A.getD i 0 + 1)).getD i 0 = A.getD i 0 + 1 := by
          rw [List.getD_eq_getElem?_getD, List.getElem?_set_self (by omega), Option.getD_some]
        rw [this, if_pos ⟨by omega, h⟩]
      · have : ((advN Ls A v i).set i (A.getD i 0 + 1)).getD j 0 = (advN Ls A v i).getD j 0 := by
          rw [List.getD_eq_getElem?_getD, List.getElem?_set_ne hij, ← List.getD_eq_getElem?_getD]
        rw [this, ih]
        by_cases h2 : hit Ls A v j = true
        · by_cases h3 : j < i
          · rw [if_pos ⟨h3, h2⟩, if_pos ⟨by omega, h2⟩]
          · rw [if_neg (fun h => h3 h.1), if_neg (fun h => h3 (by omega))]
        · rw [if_neg (fun h => h2 h.2), if_neg (fun h => h2 h.2)]
    · rename_i h
      rw [ih]
      by_cases h2 : hit Ls A v j = true
      · by_cases h3 : j < i
        · rw [if_pos ⟨h3, h2⟩, if_pos ⟨by omega, h2⟩]
        · have hji : ¬ j < i + 1 := fun h4 => by
            have h5 : j = i := by omega
            rw [h5] at h2
            exact h h2
          rw [if_neg (fun h => h3 h.1), if_neg (fun h => hji h.1)]
      · rw [if_neg (fun h => h2 h.2), if_neg (fun h => h2 h.2)]
theorem pickA_from (Ls : List (List Ver)) (A : List Nat) : ∀ i v, pickA Ls A i = some v → ∃ j, j < i ∧ hd Ls A j = some v
  | 0, v, h => by cases h
  | i + 1, v, h => by
    rw [pickA_succ] at h
    cases hh : hd Ls A i with
    | none => rw [hh] at h
              have h' : pickA Ls A i = some v := by
                cases hp : pickA Ls A i with
                | none => rw [hp] at h; cases h
                | some y => rw [hp] at h; exact h
              obtain ⟨j, hj, e⟩ := pickA_from Ls A i v h'
              exact ⟨j, by omega, e⟩
    | some x =>
      cases hp : pickA Ls A i with
      | none => rw [hh, hp] at h
                injection h with h
                subst h
                exact ⟨i, by omega, hh⟩
      | some y =>
        rw [hh, hp] at h
        have h : (if lessB x y = true then x else y) = v := by injection h
        split at h
        · subst h; exact ⟨i, by omega, hh⟩
        · subst h
          obtain ⟨j, hj, e⟩ := pickA_from Ls A i y hp
          exact ⟨j, by omega, e⟩
theorem sum_lt {α : Type} (f g : α → Nat) : ∀ (l : List α), (∀ x ∈ l, f x ≤ g x) → (∃ x ∈ l, f x < g x) → (l.map f).sum < (l.map g).sum
  | [], _, ⟨x, hx, _⟩ => by cases hx
  | y :: r, h, ⟨x, hx, hlt⟩ => by
    simp only [List.map_cons, List.sum_cons]
    have h1 := h y (List.mem_cons_self ..)
    have hle : ∀ l : List α, (∀ x ∈ l, f x ≤ g x) → (l.map f).sum ≤ (l.map g).sum := by
      intro l
      induction l with
      | nil => intro _; exact Nat.le_refl _
      | cons z s ih =>
        intro hz
        simp only [List.map_cons, List.sum_cons]
        have := hz z (List.mem_cons_self ..)
        have := ih (fun x hx => hz x (List.mem_cons_of_mem _ hx))
        omega
    rcases List.mem_cons.1 hx with rfl | hx
    · have := hle r (fun x hx => h x (List.mem_cons_of_mem _ hx)); omega
    · have := sum_lt f g r (fun x hx => h x (List.mem_cons_of_mem _ hx)) ⟨x, hx, hlt⟩; omega
theorem place_self (v : Ver) : placeB v v = true := by unfold placeB; simp
theorem hd_lt {Ls : List (List Ver)} {A : List Nat} {j : Nat} {v : Ver} (h : hd Ls A j = some v) : A.getD j 0 < (Ls.getD j []).length := (List.getElem?_eq_some_iff.1 h).1
theorem left_down {Ls : List (List Ver)} {A : List Nat} {v : Ver} (hl : A.length = Ls.length) (h : pickA Ls A Ls.length = some v) : left Ls (advN Ls A v Ls.length) < left Ls A := by
  obtain ⟨j, hj, he⟩ := pickA_from Ls A _ v h
  refine sum_lt _ _ _ (fun k hk => ?_) ⟨j, List.mem_range.2 hj, ?_⟩
  · have hk := List.mem_range.1 hk
    rw [advN_get Ls A v k (by omega)]
    split <;> omega
  · rw [advN_get Ls A v j (by omega), if_pos ⟨hj, by unfold hit; rw [he]; exact place_self v⟩]
    have := hd_lt he
    omega
theorem mergeA_end {Ls : List (List Ver)} {A : List Nat} (h : pickA Ls A Ls.length = none) : ∀ n, mergeA n Ls A = []
  | 0 => rfl
  | n + 1 => by rw [mergeA, h]
theorem mergeA_len (Ls : List (List Ver)) : ∀ n A, (mergeA n Ls A).length ≤ n
  | 0, _ => Nat.le_refl _
  | n + 1, A => by
    rw [mergeA]
    split
    · simp
    · rename_i v _
      have := mergeA_len Ls n (advN Ls A v Ls.length)
      rw [List.length_cons]; omega
end Mg
end Go.Proofs.Ythcllaombabpbaa

/-
  The document's answer of what is kept (tapestryref09.Keep).
-/
namespace Go.Proofs.Ythcllaombabpbaa
open Go.RowKit
set_option linter.unusedSimpArgs false
set_option linter.unusedVariables false
namespace Mg
open Mt (Ver mayB lessB placeB VerIn verV)
open Vs (Vers At vcs)
open Tb (ver0 getD_at own_after lower_row)
/-- sequence numbers in a row, in blocks below B -/
def Us (B : Nat) (W : World) (v : Value) (l : List Int) : Prop :=
  ∃ (a : Option Addr) (cap b off : Nat), v = .slice a l.length cap ∧ (0 < l.length → a = some ⟨b, off, none⟩ ∧ b < B) ∧ ∀ j (h : j < l.length), W.cell? ⟨b, off + j, none⟩ = some (.int .u64 l[j])
theorem trim_len (bt : Bool) (l : List Ver) : (trim bt l).length ≤ l.length := by
  unfold trim
  split
  · have := (List.dropWhile_sublist (fun v : Ver => v.del) (l := l.reverse)).length_le
    simp at this ⊢; exact this
  · exact Nat.le_refl _
theorem trim_snoc (l : List Ver) (x : Ver) : trim true (l ++ [x]) = if x.del = true then trim true l else l ++ [x] := by
  unfold trim
  simp only [if_true, List.reverse_append, List.reverse_cons, List.reverse_nil, List.nil_append, List.singleton_append, List.dropWhile_cons]
  split <;> simp
theorem kpN_len (fl : List Int) (bt : Bool) (L : List Ver) : ∀ n, (kpN fl bt L n).1.length + (kpN fl bt L n).2.length ≤ n
  | 0 => Nat.le_refl _
  | n + 1 => by
    have h := kpN_len fl bt L n
    rw [kpN_succ]
    unfold kpStep
    split
    · have := trim_len bt (kpN fl bt L n).2
      simp; omega
    · simp only [List.length_append]
      split <;> simp <;> omega
theorem kpF_len (fl : List Int) (bt : Bool) (L : List Ver) (n : Nat) : (kpF fl bt L n).length ≤ n := by
  have h := kpN_len fl bt L n
  have := trim_len bt (kpN fl bt L n).2
  unfold kpF
  rw [List.length_append]; omega
/-- amid a group: what is needed of it -/
def Need (fl : List Int) (bt : Bool) (L : List Ver) (A i : Nat) (need : List Ver) : Prop := (i = A ∧ need = []) ∨ (A < i ∧ kpN fl bt L i = (kpF fl bt L A, need))
theorem need_step {fl : List Int} {bt : Bool} {L : List Ver} {A i : Nat} {need : List Ver} (hA : newG L A = true) (hn : A < i → newG L i = false) (h : Need fl bt L A i need) :
    Need fl bt L A (i + 1) (need ++ if (decide (i = A) || seenAt fl L i) = true then [L.getD i ver0] else []) := by
  rcases h with ⟨rfl, rfl⟩ | ⟨hi, hk⟩
  · refine .inr ⟨by omega, ?_⟩
    rw [kpN_succ]
    unfold kpStep
    rw [if_pos hA]
    simp [kpF]
  · refine .inr ⟨by omega, ?_⟩
    rw [kpN_succ, hk]
    unfold kpStep
    rw [if_neg (by rw [hn hi]; simp)]
    have : decide (i = A) = false := by simp; omega
    rw [this, Bool.false_or]

theorem row_cap {W : World} {base sz n cap : Nat} {e : TypeId} {a : Option Addr} {xs : List Value} (h : W.ownsRow base e sz (.slice a n cap) n xs) : n ≤ cap := by
  rcases h.2 with ⟨h1, h2⟩ | ⟨g, cap', cur, h1, _, _, h4, _⟩
  · omega
  · injection h1 with _ _ e3
    omega
def slen : Value → Nat
  | .slice _ n _ => n
  | _ => 0
/-- what is told behind a group's first ones -/
def kpT (L : List Ver) (fl : List Int) (bt : Bool) (A nb m : Nat) (T : List Ver) (w1 wn : World) (o j : Value) (wr : World) : Prop :=
  ∃ (k : Nat), k ≤ m ∧ j = .int .i64 (k : Int) ∧ wr.ownsRow w1.heap.size 44 4 o (kpF fl bt L A ++ T.take k).length (vcs (kpF fl bt L A ++ T.take k)) ∧ Below w1.heap.size w1 wr ∧ Sq.Kept (fun b => b = nb) wn wr ∧ (o.ownBlock ≠ some nb ∨ m = 0)
/-- behind so many groups -/
def kpI (L : List Ver) (fl : List Int) (bt : Bool) (w1 : World) (o k : Value) (wr : World) : Prop :=
  ∃ (q A : Nat), q < (grp L).length ∧ (grp L)[q]? = some A ∧ k = .int .i64 (q : Int) ∧ wr.ownsRow w1.heap.size 44 4 o (kpF fl bt L A).length (vcs (kpF fl bt L A)) ∧ Below w1.heap.size w1 wr
/-- amid a group -/
def kpJ (L : List Ver) (fl : List Int) (bt : Bool) (A B : Nat) (wo : World) (nd iv : Value) (wr : World) : Prop :=
  ∃ (i : Nat) (need : List Ver), A ≤ i ∧ i ≤ B ∧ iv = .int .i64 (i : Int) ∧ Need fl bt L A i need ∧ need.length ≤ i - A ∧ wr.ownsRow wo.heap.size 44 4 nd need.length (vcs need) ∧ Below wo.heap.size wo wr

set_option maxRecDepth 100000 in
set_option maxHeartbeats 8000000 in
theorem keepR9_any (v fv : Value) (fl : List Int) (bt : Bool) (L : List Ver) (w : World) (hV : Vers w.heap.size w v L) (hF : Us w.heap.size w fv fl) (hL : L.length ≤ 1048576) (hfl : fl.length ≤ 1048576) :
    Calls Try.prog 14 #[v, fv, .bool bt] w fun e w' => ∃ u, e = .returned u ∧ w'.ownsRow w.heap.size 44 4 u (keep L fl bt).length (vcs (keep L fl bt)) ∧ Below w.heap.size w w' := by
  obtain ⟨j0, hj0, hy0, hy1, hy2⟩ := info_parts info_Ver9
  have HG := Lib.hid (groupsR_any v L w hV (by omega))
  obtain ⟨a, cap, fb, fo, rfl, ha, hcells⟩ := hV
  obtain ⟨ua, ucap, ub, uo, rfl, hua, hucells⟩ := hF
  have HC := Lib.hid hcells
  have HU := Lib.hid hucells
  clear hcells hucells
  go_enter Try.func14, Try.ntmps14
  go_wp2_with (go_at_call 34; (with_reducible refine (HG.out).mono ?_); rintro e w1 ⟨gv, rfl, hownG, hb1⟩; obtain ⟨ga, gcap, rfl, hgg⟩ := Sq.row_cases hownG; have HGG := Lib.hid hgg; clear hgg)
  have hgl : 1 ≤ (grp L).length := by rw [grp_len]; omega
  have hgm : (grp L).length ≤ L.length + 1 := by rw [grp_len]; have := grpN_len L L.length; omega
  have hg0 := grp_first L
  have hgl0 := grp_last L
  have HGA := Lib.hid (fun k hk => grp_at L (k := k) hk)
  have hs1 := hb1.size
  clear HG
  go_loopw [7, 9] (fun o k wr => kpI L fl bt w1 o k wr) (fun _ k _ => (grp L).length - (intOf k).toNat)
  case atStart => exact ⟨0, 0, by omega, by rw [List.getElem?_eq_getElem (by omega), hg0], rfl, by (have : kpF fl bt L 0 = [] := by cases bt <;> rfl); rw [this]; exact World.ownsRow_nil _ _ _ _, Below.refl _ _⟩
  case round =>
    obtain ⟨q, A, hq, hA, rfl, hownO, hBo⟩ := hrel
    obtain ⟨wo, rfl⟩ : ∃ wo : World, wo = wr := ⟨_, rfl⟩
    obtain ⟨oa, ocap, rfl, hoo⟩ := Sq.row_cases hownO
    clear hoo
    have hbos := hBo.size
    have hB2 := hb1.trans (hBo.mono hb1.size)
    have hkl := kpF_len fl bt L A
    by_cases hlt : q + 1 < (grp L).length
    · have hga := HGA.out q hlt
      obtain ⟨g, rfl, hg1, hg2⟩ := HGG.out (by omega)
      have eA := (hBo.cell (p := ⟨g, q, none⟩) hg2).trans ((hownG.cellAt q (by omega)).trans (show (nc (grp L))[q]? = some (.int .i64 (A : Int)) by simp [nc, hA]))
      have hqe : (grp L)[q] = A := by rw [List.getElem?_eq_getElem hq] at hA; exact Option.some.inj hA
      obtain ⟨B, hBe⟩ : ∃ B, (grp L)[q + 1] = B := ⟨_, rfl⟩
      have eB := (hBo.cell (p := ⟨g, q + 1, none⟩) hg2).trans ((hownG.cellAt (q + 1) (by omega)).trans (show (nc (grp L))[q + 1]? = some (.int .i64 (B : Int)) by simp [nc, List.getElem?_eq_getElem hlt, hBe]))
      rw [hqe, hBe] at hga
      obtain ⟨hAB, hBS, hnA, hnin, _⟩ := hga
      have hk0 : (0 : Int) ≤ (q : Int) ∧ (q : Int) < ((grp L).length : Int) := by omega
      have hk1 : (0 : Int) ≤ (q : Int) + 1 ∧ (q : Int) + 1 < ((grp L).length : Int) := by omega
      have hk2 : ((q : Int) + 1).toNat = q + 1 := by omega
      have HB3 := Lib.hid (show (grp L)[q + 1]? = some B by rw [List.getElem?_eq_getElem hlt, hBe])
      have HNI := Lib.hid hnin
      obtain ⟨rfl, hfb⟩ := ha (by omega)
      have hgo : g < wo.heap.size := by omega
      have HGC := Lib.hid (fun W (h : Below wo.heap.size wo W) => And.intro ((h.cell (p := ⟨g, q, none⟩) hgo).trans eA) ((h.cell (p := ⟨g, q + 1, none⟩) hgo).trans eB))
      have HLC := Lib.hid (fun W (h : Below wo.heap.size wo W) i hi => (HC.out i hi).below (hB2.trans (h.mono hB2.size)) hfb)
      have HUC := Lib.hid (fun W (h : Below wo.heap.size wo W) j (hj : j < fl.length) => ((hB2.trans (h.mono hB2.size)).cell (p := ⟨ub, uo + j, none⟩) (hua (by omega)).2).trans (HU.out j hj))
      have HOO := Lib.hid hownO
      clear hqe hBe hA hnin hownO
      go_wp2_with fail
      clear eA eB
      go_loopw [10, 11] (fun nd iv wr => kpJ L fl bt A B wo nd iv wr) (fun _ iv _ => B - (intOf iv).toNat)
      case atStart => exact ⟨A, [], Nat.le_refl _, by omega, rfl, .inl ⟨rfl, rfl⟩, Nat.zero_le _, World.ownsRow_nil _ _ _ _, Below.refl _ _⟩
      case round =>
        obtain ⟨i, need, hi1, hi2, rfl, hneed, hnl, hownN, hBn⟩ := hrel
        obtain ⟨wn, rfl⟩ : ∃ wn : World, wn = wr := ⟨_, rfl⟩
        obtain ⟨na, ncap, rfl, hnn⟩ := Sq.row_cases hownN
        have HNN := Lib.hid hnn
        clear hnn
        obtain ⟨eA, eB⟩ := HGC.out wn hBn
        have hbns := hBn.size
        by_cases hib : i < B
        · have hiS : i < L.length := by omega
          have hii : (i : Int) < (B : Int) := by omega
          have hij : (0 : Int) ≤ (i : Int) ∧ (i : Int) < (L.length : Int) := by omega
          have hst := need_step hnA (fun h => HNI.out i h hib) hneed
          rw [getD_at hiS] at hst
          have hAe : ((i : Int) == (A : Int)) = decide (i = A) := by rw [Bool.eq_iff_iff]; simp; omega
          have hsn : ∀ (P : List Int), seenAt P L i = P.any fun f => decide ((L.getD i ver0).seq ≤ f) && decide (f < (L.getD (i - 1) ver0).seq) := fun _ => rfl
          obtain ⟨e, he⟩ : ∃ e, decide (i = A) = e := ⟨_, rfl⟩
          rw [he] at hAe hst
          have HIE := Lib.hid he
          clear he
          have HNS := Lib.hid hst
          have HSN := Lib.hid hsn
          clear hst hsn
          have HON := Lib.hid hownN
          clear hownN
          go_upto_block 4 with fail
          go_cut [12, 13] from 43 to 74 (fun r _ wx => r = .bool (e || seenAt fl L i) ∧ Below wn.heap.size wn wx)
          case first =>
            cases e with
            | true =>
              go_wp2_with fail
              go_loopw [12, 13] (fun b j wr => ∃ k : Nat, k ≤ fl.length ∧ j = .int .i64 (k : Int) ∧ b = .bool true ∧ Below wn.heap.size wn wr) (fun _ j _ => fl.length - (intOf j).toNat)
              case atStart => exact ⟨0, Nat.zero_le _, rfl, rfl, Below.refl _ _⟩
              case round =>
                obtain ⟨k, hk, rfl, rfl, hBk⟩ := hrel
                have hbks := hBk.size
                by_cases hkl2 : k < fl.length
                · have hki : (0 : Int) ≤ (k : Int) ∧ (k : Int) < (fl.length : Int) := by omega
                  go_wp2_with fail
                  go_big_quiet (fail)
                  go_wp2_with fail
                  go_roundw
                  case rel => exact ⟨k + 1, by omega, by go_num, rfl, belowN hBk _⟩
                  case measure => simp [intOf]; omega
                · obtain rfl : k = fl.length := by omega
                  go_wp2_with fail
                  go_meet
                  exact ⟨rfl, hBk⟩
            | false =>
              have hiA : A < i := by have : ¬ i = A := by simpa using HIE.out
                                     omega
              have hlt0 : i - 1 < L.length := by omega
              have hz1 : IntKind.i64.wrap ((i : Int) - 1) = (i : Int) - 1 := by rw [IntKind.wrap_i64]; omega
              have hz2 : (0 : Int) ≤ (i : Int) - 1 ∧ (i : Int) - 1 < (L.length : Int) := by omega
              have hz3 : ((i : Int) - 1).toNat = i - 1 := by omega
              have HSN2 := Lib.hid (fun P => by have := HSN.out P; rw [getD_at hiS, getD_at hlt0] at this; exact this)
              go_wp2_with fail
              go_loopw [12, 13] (fun b j wr => ∃ k : Nat, k ≤ fl.length ∧ j = .int .i64 (k : Int) ∧ b = .bool (seenAt (fl.take k) L i) ∧ Below wn.heap.size wn wr) (fun _ j _ => fl.length - (intOf j).toNat)
              case atStart => exact ⟨0, Nat.zero_le _, rfl, rfl, Below.refl _ _⟩
              case round =>
                obtain ⟨k, hk, rfl, rfl, hBk⟩ := hrel
                obtain ⟨wk, rfl⟩ : ∃ wk : World, wk = wr := ⟨_, rfl⟩
                have hbks := hBk.size
                have hBk2 := hBn.trans (hBk.mono hbns)
                by_cases hkl2 : k < fl.length
                · have hki : (0 : Int) ≤ (k : Int) ∧ (k : Int) < (fl.length : Int) := by omega
                  obtain ⟨_, e1, _, _⟩ := HLC.out _ hBk2 i hiS
                  obtain ⟨_, d1, _, _⟩ := HLC.out _ hBk2 (i - 1) hlt0
                  have eu := HUC.out _ hBk2 k hkl2
                  obtain ⟨rfl, hub⟩ := hua (by omega)
                  have htk : seenAt (fl.take (k + 1)) L i = (seenAt (fl.take k) L i || (decide (L[i].seq ≤ fl[k]) && decide (fl[k] < L[i - 1].seq))) := by
                    rw [HSN2.out, HSN2.out, List.take_succ_eq_append_getElem hkl2, List.any_append]; simp
                  have HTK := Lib.hid htk
                  clear htk
                  generalize seenAt (fl.take k) L i = sb at *
                  generalize L[i].seq = xs at *
                  generalize L[i - 1].seq = ys at *
                  generalize fl[k] = f at *
                  cases sb with
                  | true =>
                    go_wp2_with fail
                    go_big_quiet (fail)
                    go_wp2_with fail
                    go_roundw
                    case rel => exact ⟨k + 1, by omega, by go_num, congrArg Value.bool (HTK.out.trans (Bool.true_or _)).symm, belowN hBk _⟩
                    case measure => simp [intOf]; omega
                  | false =>
                    by_cases h1 : xs ≤ f
                    · by_cases h2 : f < ys
                      · have HT2 := Lib.hid (show seenAt (fl.take (k + 1)) L i = true by rw [HTK.out]; simp [h1, h2])
                        have h1d : decide (xs ≤ f) = true := by simpa using h1
                        have h2d : decide (f < ys) = true := by simpa using h2
                        go_wp2_with fail
                        go_big_quiet (fail)
                        go_wp2_with fail
                        go_roundw
                        case rel => exact ⟨k + 1, by omega, by go_num, congrArg Value.bool HT2.out.symm, belowN hBk _⟩
                        case measure => simp [intOf]; omega
                      · have HT2 := Lib.hid (show seenAt (fl.take (k + 1)) L i = false by rw [HTK.out]; simp [h2])
                        have h1d : decide (xs ≤ f) = true := by simpa using h1
                        have h2d : decide (f < ys) = false := by simpa using h2
                        go_wp2_with fail
                        go_big_quiet (fail)
                        go_wp2_with fail
                        go_roundw
                        case rel => exact ⟨k + 1, by omega, by go_num, congrArg Value.bool HT2.out.symm, belowN hBk _⟩
                        case measure => simp [intOf]; omega
                    · have HT2 := Lib.hid (show seenAt (fl.take (k + 1)) L i = false by rw [HTK.out]; simp [h1])
                      have h1d : decide (xs ≤ f) = false := by simpa using h1
                      go_wp2_with fail
                      go_big_quiet (fail)
                      go_wp2_with fail
                      go_roundw
                      case rel => exact ⟨k + 1, by omega, by go_num, congrArg Value.bool HT2.out.symm, belowN hBk _⟩
                      case measure => simp [intOf]; omega
                · obtain rfl : k = fl.length := by omega
                  rw [List.take_length]
                  go_wp2_with fail
                  go_meet
                  exact ⟨rfl, hBk⟩
          case rest =>
            obtain ⟨rfl, hBk⟩ := hcut
            have hBk2 := hBn.trans (hBk.mono hbns)
            cases hsb : (e || seenAt fl L i) with
            | true =>
              obtain ⟨e0, e1, e2, e3⟩ := HLC.out _ hBk2 i hiS
              have HNS2 := Lib.hid (show Need fl bt L A (i + 1) (need ++ [L[i]]) from by have := HNS.out; rwa [hsb] at this)
              clear hsb
              generalize L[i] = x at *
              obtain ⟨xk, xs, xd, xv⟩ := x
              simp only at e0 e1 e2 e3
              have hoN := own_after HON.out hBk
              have hbks2 := hBk2.size
              go_wp2_with (at_builtin; refine wpList_append_own _ rfl _ _ 28 rfl wo.heap.size 44 j0 (.agg #[.string ⟨#[]⟩, .int .u64 0, .bool false, .string ⟨#[]⟩]) 4 48 Try.underlying28 hj0 hy0 hy1 hy2 rfl (by decide) _ _ _ rfl (hoN.alloc _) ⟨wc.heap.size, 0, none⟩ 1 1 [_, _, _, _] rfl rfl (by simpa using Vs.cell_four_new wc _ _ _ _ _) (by simp [Value.oneCell']) (by unfold maxLen; omega) (by omega) (by simp; omega) ?_; intro v' w2 hown2 hgrow _)
              have hb' := (hBk2.alloc hBk2.size (.cells #[.string (Cd.bs xk), .int .u64 xs, .bool xd, .string (Cd.bs xv)] 44)).grown hgrow (by simp; omega) (fun j hj => (hoN.lt j hj).1)
              clear hgrow
              go_roundw
              case rel => exact ⟨i + 1, need ++ [⟨xk, xs, xd, xv⟩], by omega, by omega, by go_num, HNS2.out, by rw [List.length_append, List.length_singleton]; omega, by rw [List.length_append, Vs.vcs_snoc]; exact hown2, hb'⟩
              case measure => simp [intOf]; omega
            | false =>
              have HNS2 := Lib.hid (show Need fl bt L A (i + 1) need from by have := HNS.out; rw [hsb] at this; simpa using this)
              clear hsb
              go_wp2_with fail
              go_roundw
              case rel => exact ⟨i + 1, need, by omega, by omega, by go_num, HNS2.out, by omega, own_after HON.out hBk, hBk2⟩
              case measure => simp [intOf]; omega
        · have hBn2 : i = B := by omega
          have hkn : kpN fl bt L B = (kpF fl bt L A, need) := by
            rw [← hBn2]
            rcases hneed with ⟨h1, _⟩ | ⟨_, h⟩
            · omega
            · exact h
          have HKF := Lib.hid (show kpF fl bt L B = kpF fl bt L A ++ trim bt need by show (kpN fl bt L B).1 ++ trim bt (kpN fl bt L B).2 = _; rw [hkn])
          have hid : decide ((i : Int) < (B : Int)) = false := by simp; omega
          clear hneed hkn hBn2
          have hcapn := row_cap hownN
          obtain ⟨na', ncap', nb, no, hnv, hnb, hncells⟩ := Vs.vers_of_own hownN
          injection hnv with q1 q2 q3
          subst q1 q3
          have HNC := Lib.hid hncells
          have HNB := Lib.hid hnb
          clear hnb
          have hoN := own_after HOO.out hBn
          have hoB : (Value.slice oa (kpF fl bt L A).length ocap).ownBlock ≠ some nb ∨ need.length = 0 := by
            by_cases h0 : 0 < need.length
            · refine .inl (fun h => ?_)
              have h1 := (Ob.row_lt HOO.out h).2
              obtain ⟨g', h2, h3, _⟩ := HNN.out h0
              have h4 := (HNB.out h0).1
              rw [h2] at h4
              injection h4 with h4
              injection h4 with h4 _ _
              omega
            · exact .inr (by omega)
          have HOB := Lib.hid hoB
          clear hncells hownN hoB
          go_wp2_with fail
          go_loop [10] (fun nd => ∃ m : Nat, m ≤ need.length ∧ nd = .slice na m ncap ∧ Hid (trim bt need = trim bt (need.take m))) (fun nd => slen nd)
          case atStart => exact ⟨need.length, Nat.le_refl _, rfl, by rw [List.take_length]; rfl⟩
          case round =>
            obtain ⟨m, hm, rfl, htr⟩ := hrel
            have hstep : (bt = true ∧ ∃ hm0 : 0 < m, (need[m - 1]'(by omega)).del = true) ∨ ((bt = false ∨ (bt = true ∧ m = 0) ∨ (bt = true ∧ 0 < m ∧ ∃ h : m - 1 < need.length, (need[m - 1]'h).del = false)) ∧ trim bt (need.take m) = need.take m) := by
              cases bt with
              | false => exact .inr ⟨.inl rfl, rfl⟩
              | true =>
                by_cases h0 : m = 0
                · subst h0; exact .inr ⟨.inr (.inl ⟨rfl, rfl⟩), rfl⟩
                · have hlt1 : m - 1 < need.length := by omega
                  have hsn : need.take m = need.take (m - 1) ++ [need[m - 1]] := by
                    have := List.take_succ_eq_append_getElem hlt1
                    rwa [show m - 1 + 1 = m by omega] at this
                  cases hd : (need[m - 1]).del with
                  | true => exact .inl ⟨rfl, by omega, hd⟩
                  | false => exact .inr ⟨.inr (.inr ⟨rfl, by omega, hlt1, hd⟩), by rw [hsn, trim_snoc, hd]; rfl⟩
            rcases hstep with ⟨rfl, hm0, hd⟩ | ⟨hwhy, htm⟩
            · have hlt1 : m - 1 < need.length := by omega
              obtain ⟨rfl, hnbl⟩ := HNB.out (by omega)
              obtain ⟨_, _, e2, _⟩ := HNC.out (m - 1) hlt1
              have hsn : need.take m = need.take (m - 1) ++ [need[m - 1]] := by
                have := List.take_succ_eq_append_getElem hlt1
                rwa [show m - 1 + 1 = m by omega] at this
              have HT2 := Lib.hid (show trim true need = trim true (need.take (m - 1)) by rw [htr.out, hsn, trim_snoc, hd]; rfl)
              rw [hd] at e2
              have g1 : (0 : Int) < (m : Int) := by omega
              have g2 : IntKind.i64.wrap ((m : Int) - 1) = (m : Int) - 1 := by rw [IntKind.wrap_i64]; omega
              have g3 : (0 : Int) ≤ (m : Int) - 1 ∧ (m : Int) - 1 < (m : Int) := by omega
              have g4 : ((m : Int) - 1).toNat = m - 1 := by omega
              have g5 : (0 : Int) ≤ (m : Int) - 1 ∧ (m : Int) - 1 ≤ (ncap : Int) := by omega
              clear hsn htr
              go_wp2_with fail
              go_round
              case rel => exact ⟨m - 1, by omega, by first | rfl | simp, HT2⟩
              case measure => simp [slen]; omega
            · have HTM := Lib.hid (show kpF fl bt L B = kpF fl bt L A ++ need.take m by rw [HKF.out, htr.out, htm])
              clear htr htm HKF
              rcases hwhy with rfl | ⟨rfl, hmz⟩ | ⟨rfl, hm0, hlt1, hd⟩
              · go_wp2_with fail
                go_loopw [7, 14] (fun o j wr => kpT L fl false A nb m need w1 wn o j wr) (fun _ j _ => m - (intOf j).toNat)
                case atStart => exact ⟨0, Nat.zero_le _, rfl, by rw [List.take_zero, List.append_nil]; exact hoN, hBo.trans (hBn.mono hBo.size), Sq.Kept.refl _ _, HOB.out.imp id (fun h => by omega)⟩
                case round =>
                  obtain ⟨k, hk, rfl, hownV, hBv, hkv, hov⟩ := hrel
                  have hbvs := hBv.size
                  have hnvs := hkv.size
                  by_cases hkm : k < m
                  · have hkn : k < need.length := by omega
                    obtain ⟨hna, hnbl'⟩ := HNB.out (by omega)
                    subst hna
                    obtain ⟨e0, e1, e2', e3⟩ := HNC.out k hkn
                    replace e0 := hkv.cell (p := ⟨nb, no + k * 4, none⟩) rfl e0
                    replace e1 := hkv.cell (p := ⟨nb, no + k * 4 + 1, none⟩) rfl e1
                    replace e2' := hkv.cell (p := ⟨nb, no + k * 4 + 2, none⟩) rfl e2'
                    replace e3 := hkv.cell (p := ⟨nb, no + k * 4 + 3, none⟩) rfl e3
                    have hts := List.take_succ_eq_append_getElem hkn
                    have HTS := Lib.hid (show kpF fl false L A ++ need.take (k + 1) = (kpF fl false L A ++ need.take k) ++ [need[k]] by rw [hts, List.append_assoc])
                    have hlen : (kpF fl false L A ++ need.take k).length ≤ 1048576 := by rw [List.length_append, List.length_take]; omega
                    have hki : (0 : Int) ≤ (k : Int) ∧ (k : Int) < (m : Int) := by omega
                    have hovn := hov.resolve_right (by omega)
                    have HVV := Lib.hid hownV
                    clear hts hownV
                    generalize need[k] = x at *
                    obtain ⟨xk, xs, xd, xv⟩ := x
                    simp only at e0 e1 e2' e3
                    generalize kpF fl false L A ++ need.take k = P at *
                    go_wp2_with (at_builtin; refine wpList_append_lies _ rfl _ _ 28 rfl w1.heap.size 44 j0 (.agg #[.string ⟨#[]⟩, .int .u64 0, .bool false, .string ⟨#[]⟩]) 4 48 Try.underlying28 hj0 hy0 hy1 hy2 rfl (by decide) _ _ _ rfl (HVV.out.alloc _) ⟨wr.heap.size, 0, none⟩ 1 1 [_, _, _, _] rfl rfl (by simpa using Vs.cell_four_new wr _ _ _ _ _) (by simp [Value.oneCell']) (by decide) (by unfold maxLen; omega) (by omega) (by simp; omega) (wr.heap.size + 1) (by simp) ?_; intro gg cap2 w2 hown2 hgrow hat hlt2)
                    have hb' := (hBv.alloc hbvs (.cells #[.string (Cd.bs xk), .int .u64 xs, .bool xd, .string (Cd.bs xv)] 44)).grown hgrow (by simp; omega) (fun j hj => (Ob.row_lt HVV.out hj).1)
                    have hk' := (hkv.trans (Sq.Kept.alloc _ _ (.cells #[.string (Cd.bs xk), .int .u64 xs, .bool xd, .string (Cd.bs xv)] 44))).trans (Sq.Kept.grown (T := fun b => b = nb) hgrow (fun r hr h => by subst h; exact hovn hr))
                    have hn' : (Value.slice (some ⟨gg, 0, none⟩) (P.length + 1) cap2).ownBlock ≠ some nb := fun h => by
                      have : gg = nb := by simpa [Value.ownBlock] using h
                      subst this
                      rcases hat with h1 | h1
                      · exact hovn h1
                      · omega
                    clear hgrow hat
                    go_roundw
                    case rel => exact ⟨k + 1, by omega, by go_num, by rw [HTS.out, List.length_append, Vs.vcs_snoc]; exact hown2, hb', hk', .inl hn'⟩
                    case measure => simp [intOf]; omega
                  · have hke : k = m := by omega
                    rw [hke] at hownV
                    have hkd : decide ((k : Int) < (m : Int)) = false := by simp; omega
                    clear hke
                    have HFE := Lib.hid (show kpF fl false L B = kpF fl false L A ++ need.take m from HTM.out)
                    clear hov
                    go_wp2_with fail
                    go_roundw
                    case rel => exact ⟨q + 1, B, by omega, HB3.out, by go_num, by rw [HFE.out]; exact hownV, hBv⟩
                    case measure => simp [intOf]; omega
              · have g1d : decide ((0 : Int) < (m : Int)) = false := by simp; omega
                have g1 : ¬ (0 : Int) < (m : Int) := by omega
                have hmz2 : m ≤ 0 := by omega
                clear hmz
                go_wp2_with fail
                go_loopw [7, 14] (fun o j wr => kpT L fl true A nb m need w1 wn o j wr) (fun _ j _ => m - (intOf j).toNat)
                case atStart => exact ⟨0, Nat.zero_le _, rfl, by rw [List.take_zero, List.append_nil]; exact hoN, hBo.trans (hBn.mono hBo.size), Sq.Kept.refl _ _, HOB.out.imp id (fun h => by omega)⟩
                case round =>
                  obtain ⟨k, hk, rfl, hownV, hBv, hkv, hov⟩ := hrel
                  have hbvs := hBv.size
                  have hnvs := hkv.size
                  by_cases hkm : k < m
                  · exact absurd hkm (by omega)
                  · have hke : k = m := by omega
                    rw [hke] at hownV
                    have hkd : decide ((k : Int) < (m : Int)) = false := by simp; omega
                    clear hke
                    have HFE := Lib.hid (show kpF fl true L B = kpF fl true L A ++ need.take m from HTM.out)
                    clear hov
                    go_wp2_with fail
                    go_roundw
                    case rel => exact ⟨q + 1, B, by omega, HB3.out, by go_num, by rw [HFE.out]; exact hownV, hBv⟩
                    case measure => simp [intOf]; omega
              · obtain ⟨rfl, hnbl⟩ := HNB.out (by omega)
                obtain ⟨_, _, e2, _⟩ := HNC.out (m - 1) hlt1
                rw [hd] at e2
                have g1 : (0 : Int) < (m : Int) := by omega
                have g2 : IntKind.i64.wrap ((m : Int) - 1) = (m : Int) - 1 := by rw [IntKind.wrap_i64]; omega
                have g3 : (0 : Int) ≤ (m : Int) - 1 ∧ (m : Int) - 1 < (m : Int) := by omega
                have g4 : ((m : Int) - 1).toNat = m - 1 := by omega
                go_wp2_with fail
                go_loopw [7, 14] (fun o j wr => kpT L fl true A nb m need w1 wn o j wr) (fun _ j _ => m - (intOf j).toNat)
                case atStart => exact ⟨0, Nat.zero_le _, rfl, by rw [List.take_zero, List.append_nil]; exact hoN, hBo.trans (hBn.mono hBo.size), Sq.Kept.refl _ _, HOB.out.imp id (fun h => by omega)⟩
                case round =>
                  obtain ⟨k, hk, rfl, hownV, hBv, hkv, hov⟩ := hrel
                  have hbvs := hBv.size
                  have hnvs := hkv.size
                  by_cases hkm : k < m
                  · have hkn : k < need.length := by omega
                    obtain ⟨hna, hnbl'⟩ := HNB.out (by omega)
                    clear hna
                    obtain ⟨e0, e1, e2', e3⟩ := HNC.out k hkn
                    replace e0 := hkv.cell (p := ⟨nb, no + k * 4, none⟩) rfl e0
                    replace e1 := hkv.cell (p := ⟨nb, no + k * 4 + 1, none⟩) rfl e1
                    replace e2' := hkv.cell (p := ⟨nb, no + k * 4 + 2, none⟩) rfl e2'
                    replace e3 := hkv.cell (p := ⟨nb, no + k * 4 + 3, none⟩) rfl e3
                    have hts := List.take_succ_eq_append_getElem hkn
                    have HTS := Lib.hid (show kpF fl true L A ++ need.take (k + 1) = (kpF fl true L A ++ need.take k) ++ [need[k]] by rw [hts, List.append_assoc])
                    have hlen : (kpF fl true L A ++ need.take k).length ≤ 1048576 := by rw [List.length_append, List.length_take]; omega
                    have hki : (0 : Int) ≤ (k : Int) ∧ (k : Int) < (m : Int) := by omega
                    have hovn := hov.resolve_right (by omega)
                    have HVV := Lib.hid hownV
                    clear hts hownV
                    generalize need[k] = x at *
                    obtain ⟨xk, xs, xd, xv⟩ := x
                    simp only at e0 e1 e2' e3
                    generalize kpF fl true L A ++ need.take k = P at *
                    go_wp2_with (at_builtin; refine wpList_append_lies _ rfl _ _ 28 rfl w1.heap.size 44 j0 (.agg #[.string ⟨#[]⟩, .int .u64 0, .bool false, .string ⟨#[]⟩]) 4 48 Try.underlying28 hj0 hy0 hy1 hy2 rfl (by decide) _ _ _ rfl (HVV.out.alloc _) ⟨wr.heap.size, 0, none⟩ 1 1 [_, _, _, _] rfl rfl (by simpa using Vs.cell_four_new wr _ _ _ _ _) (by simp [Value.oneCell']) (by decide) (by unfold maxLen; omega) (by omega) (by simp; omega) (wr.heap.size + 1) (by simp) ?_; intro gg cap2 w2 hown2 hgrow hat hlt2)
                    have hb' := (hBv.alloc hbvs (.cells #[.string (Cd.bs xk), .int .u64 xs, .bool xd, .string (Cd.bs xv)] 44)).grown hgrow (by simp; omega) (fun j hj => (Ob.row_lt HVV.out hj).1)
                    have hk' := (hkv.trans (Sq.Kept.alloc _ _ (.cells #[.string (Cd.bs xk), .int .u64 xs, .bool xd, .string (Cd.bs xv)] 44))).trans (Sq.Kept.grown (T := fun b => b = nb) hgrow (fun r hr h => by subst h; exact hovn hr))
                    have hn' : (Value.slice (some ⟨gg, 0, none⟩) (P.length + 1) cap2).ownBlock ≠ some nb := fun h => by
                      have : gg = nb := by simpa [Value.ownBlock] using h
                      subst this
                      rcases hat with h1 | h1
                      · exact hovn h1
                      · omega
                    clear hgrow hat
                    go_roundw
                    case rel => exact ⟨k + 1, by omega, by go_num, by rw [HTS.out, List.length_append, Vs.vcs_snoc]; exact hown2, hb', hk', .inl hn'⟩
                    case measure => simp [intOf]; omega
                  · have hke : k = m := by omega
                    rw [hke] at hownV
                    have hkd : decide ((k : Int) < (m : Int)) = false := by simp; omega
                    clear hke
                    have HFE := Lib.hid (show kpF fl true L B = kpF fl true L A ++ need.take m from HTM.out)
                    clear hov
                    go_wp2_with fail
                    go_roundw
                    case rel => exact ⟨q + 1, B, by omega, HB3.out, by go_num, by rw [HFE.out]; exact hownV, hBv⟩
                    case measure => simp [intOf]; omega
    · have hAe : A = L.length := by
        have : q = (grp L).length - 1 := by omega
        subst this
        rw [List.getElem?_eq_getElem (by omega), hgl0] at hA
        exact (Option.some.inj hA).symm
      have HPE := Lib.hid (show keep L fl bt = kpF fl bt L A by rw [hAe]; rfl)
      have hkd : decide ((q : Int) + 1 < ((grp L).length : Int)) = false := by simp; omega
      clear hAe hA
      go_wp2_with fail
      go_ret
      exact ⟨_, rfl, by rw [HPE.out]; exact lower_row hownO hb1.size, hB2⟩
end Mg
end Go.Proofs.Ythcllaombabpbaa
