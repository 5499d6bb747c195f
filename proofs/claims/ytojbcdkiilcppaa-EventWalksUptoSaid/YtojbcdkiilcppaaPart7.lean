import Derived.Deep.Quiet
import Derived.Deep.QuietTactic
import Derived.BigQuiet
import Derived.OrdersIn
import Derived.CallsIn
import Derived.RangeFuncCalls
import Derived.Test.YtojbcdkiilcppaaPart6
/-
  A region that draws its order and only reads, walked once in the text's order, where the fence lets all in: also within a round of a range over a function.
-/
namespace Go.Proofs.Ytojbcdkiilcppaa
namespace Qr
variable {F : Fence} {n : Nat} {P : Program} {ops : Array Oper} {md : Region.Mode} {C : World → Prop}

/-- the fence lets all in -/
structure Open (F : Fence) : Prop where
  fn : ∀ f, F.fn f
  depth : F.depth = none
  calls : ∀ {P : Program} {n : Nat} {f : FuncId} {args : Array Value} {w : World} {R : Ending → World → Prop}, Calls P f args w R → CallsIn F n P f args w R
theorem open_wide : Open Fence.wide := ⟨fun _ => trivial, rfl, fun h => callsIn_wide.2 h⟩
theorem open_round (l : Nat) : Open (Fence.wide.inRound l) := ⟨fun _ => trivial, rfl, fun h => CallsIn.inRound l (callsIn_wide.2 h)⟩

def notDefer (o : Oper) : Bool := match o.op with | .defer _ => false | _ => true
theorem notDefer_ne {o : Oper} (h : notDefer o = true) : ∀ c, o.op ≠ .defer c := fun c e => by unfold notDefer at h; rw [e] at h; cases h

theorem oper_of_quiet (hO : Open F) {o : Oper} {a : Act} {K : Act → Prop} {K' : Act → World → Prop} {Q' : Exit → Act → World → Prop} {w : World} (hnd : notDefer o = true) (hw : C w) (h : ∀ a w', C w' → K a → K' a w')
    (hh : o.quiet P a C K) : o.wpIn F n P a w K' Q' := by
  obtain ⟨v, h1, h2⟩ := hh
  have h3 := h1 w hw
  unfold Oper.quietAt at h3
  unfold Oper.wpIn
  refine ⟨fun f _ => hO.fn f, ?_⟩
  rw [Oper.semAt_eq _ _ _ (notDefer_ne hnd)]
  generalize (execOp a.eval o).run P w = r at *
  cases r with
  | ok x w' =>
    cases x <;> simp only [Oper.quietUpon] at h3 <;> simp only [Oper.uponIn]
    case value u => obtain ⟨e1, e2⟩ := h3; rw [e1, e2]; exact h _ _ hw h2
    case skip => obtain ⟨e1, e2⟩ := h3; rw [e1, ← e2]; exact h _ _ hw h2
    case enter f args =>
      obtain ⟨e1, hc⟩ := h3
      rw [e1]
      exact ⟨fun hd => (by rw [hO.depth] at hd; cases hd), (hO.calls hc).mono fun e w'' ⟨he, hw''⟩ => by subst he; exact h _ _ hw'' h2⟩
  | halt x w' => simp only [Oper.quietUpon] at h3

theorem op_of_quiet (hO : Open F) (hnd : ops.all notDefer = true) {i : Nat} {a : Act} {K : Act → Prop} {K' : Act → World → Prop} {Q' : Exit → Act → World → Prop} {w : World} (hC : C w) (h : ∀ a w', C w' → K a → K' a w')
    (hh : qOp P ops C i K a) : wpOpIn F n P ops Q' i K' a w := by
  unfold qOp at hh
  unfold wpOpIn
  cases ho : ops[i]? with
  | none => simp only [ho] at hh; exact h _ _ hC hh
  | some o =>
    simp only [ho] at hh
    have hno : notDefer o = true := Array.all_eq_true_iff_forall_mem.1 hnd o (Array.mem_of_getElem? ho)
    by_cases hw : Region.wanted o (yielded ops a.tmps) = true
    · simp only [hw, if_true] at hh ⊢; exact oper_of_quiet hO hno hC h hh
    · simp only [hw] at hh ⊢; exact ⟨fun f _ => hO.fn f, h _ _ hC hh⟩

theorem any_of_quiet (hO : Open F) (hnd : ops.all notDefer = true) {Q : Act → Prop} {Q' : Exit → Act → World → Prop} (hQ : ∀ a w, C w → Q a → Q' .normal a w) : ∀ (fuel : Nat) (listed : Array Bool) (a : Act) (w : World), C w →
    wpAnyQ P md ops C Q fuel listed a → wpAnyIn F n P md ops Q' fuel listed a w
  | 0, _, _, _, hw, h => ⟨h.1, hQ _ _ hw h.2⟩
  | fuel + 1, _, _, _, hw, h => ⟨fun h0 => hQ _ _ hw (h.1 h0), fun i hi => op_of_quiet hO hnd hw (fun a' w' hw' => any_of_quiet hO hnd hQ fuel _ a' w' hw') (h.2 i hi)⟩

/-- one walk of the text's order serves every order, also within a round -/
theorem region_quiet {id : Nat} {Q : Exit → Act → World → Prop} {a : Act} {w : World} {l : List Oper} (hO : Open F) (hm : P.follows .mixedOrders = true) (hB : Region.lexB .any l.toArray = true) (hnd : l.toArray.all notDefer = true)
    (h : wpQuiet P l.toArray (fun w' => ∃ n, w' = w.drewN n) (fun a' => ∀ w', (∃ n, w' = w.drewN n) → Q .normal a' w') l a) : (Code.region id l.toArray true).wpIn F n P Q a w := by
  simp only [Region.lexB, Bool.and_eq_true] at hB
  refine wpIn_region_any hm (any_of_quiet (C := fun w' => ∃ n, w' = w.drewN n) hO hnd (Q := fun a' => ∀ w', (∃ n, w' = w.drewN n) → Q .normal a' w') (fun _ w' hw' h => h w' hw') _ _ _ _ ⟨1, rfl⟩ ?_)
  have := wpAnyQ_lex (P := P) (C := fun w' => ∃ n, w' = w.drewN n) (md := .any) (ops := l.toArray) hB.1 l 0 (Array.replicate l.toArray.size false) a (by simp) (by simpa using hB.2) h
  simpa using this
end Qr
end Go.Proofs.Ytojbcdkiilcppaa

/-
  The law EventWalks walked.
-/
namespace Go.Proofs.Ytojbcdkiilcppaa
open Go.RowKit Go.Shelf
set_option linter.unusedSimpArgs false
set_option linter.unusedVariables false
namespace Ev

attribute [local go_sem] Oper.semAt_some
/-- the places of what is told -/
def pls (P : List (Nat × Evt)) : List Int := P.map fun p => (p.1 : Int)
theorem pls_snoc (P : List (Nat × Evt)) (p : Nat × Evt) : pls (P ++ [p]) = pls P ++ [(p.1 : Int)] := by simp [pls]
theorem wkN_len (L : List Evt) (ks : List Int) : ∀ n, (wkN L ks n).length ≤ n
  | 0 => Nat.le_refl _
  | n + 1 => by
    have := wkN_len L ks n
    rw [wkN, List.length_append]
    cases L[n]? with
    | none => simp; omega
    | some x =>
      by_cases h : hasB ks x.kind = true
      · simp [h]; omega
      · simp [h]; omega

theorem wkN_mem {L : List Evt} {ks : List Int} : ∀ (n : Nat) (p : Nat × Evt), p ∈ wkN L ks n → L[p.1]? = some p.2
  | 0, p, h => by cases h
  | n + 1, p, h => by
    rw [wkN] at h
    rcases List.mem_append.1 h with h | h
    · exact wkN_mem n p h
    · cases hx : L[n]? with
      | none => rw [hx] at h; cases h
      | some x =>
        rw [hx] at h
        by_cases hb : hasB ks x.kind = true
        · simp only [hb, if_true, List.mem_singleton] at h
          subst h
          exact hx
        · simp [hb] at h
theorem wk_next {L : List Evt} {ks : List Int} {pre : List (Nat × Evt)} {p : Nat × Evt} (h : pre ++ [p] <+: wk L ks) : pre.length < (wk L ks).length ∧ (wk L ks)[pre.length]? = some p ∧ L[p.1]? = some p.2 := by
  obtain ⟨t, ht⟩ := h
  have h1 : (wk L ks)[pre.length]? = some p := by rw [← ht]; simp
  exact ⟨(List.getElem?_eq_some_iff.1 h1).1, h1, wkN_mem _ p (by rw [← wk]; exact List.mem_of_getElem? h1)⟩
def ewI (bn : Nat) (w3 : World) (most : Int) (R : Sq.Blocks) (pre : List (Nat × Evt)) (X : World) : Prop :=
  ((pre.length : Int) ≠ most ∨ pre = []) ∧ (Boxed X bn 3 (.int .i64 (pre.length : Int)) ∧ ¬ R bn) ∧ (Boxed X (bn + 1) 4 (.bool true) ∧ ¬ R (bn + 1)) ∧ (Sq.Kept (fun b => b < bn) w3 X ∧ ∀ b, b < bn → b < w3.heap.size → ¬ R b)
def ewX (bn : Nat) (w3 : World) (most : Int) (c : Code) (R : Sq.Blocks) (pre : List (Nat × Evt)) (X : World) : Prop :=
  (c = .exit 2 ∧ (pre.length : Int) = most) ∧ (Boxed X bn 3 (.int .i64 (pre.length : Int)) ∧ ¬ R bn) ∧ (Boxed X (bn + 1) 4 (.bool true) ∧ ¬ R (bn + 1)) ∧ (Sq.Kept (fun b => b < bn) w3 X ∧ ∀ b, b < bn → b < w3.heap.size → ¬ R b)
theorem ewI_steady (bn : Nat) (w3 : World) (most : Int) : Sq.Steady (ewI bn w3 most) := (Sq.Steady.pure _).and ((Sq.Steady.box _ _ _).and ((Sq.Steady.box _ _ _).and (Sq.Steady.kept _ _)))
theorem ewX_steady (bn : Nat) (w3 : World) (most : Int) (c : Code) : Sq.Steady (ewX bn w3 most c) := (Sq.Steady.pure _).and ((Sq.Steady.box _ _ _).and ((Sq.Steady.box _ _ _).and (Sq.Steady.kept _ _)))

set_option maxRecDepth 100000 in
set_option maxHeartbeats 16000000 in
theorem eventWalks_law (lv : Value) (L : List Evt) (ka : Option Addr) (kn kc : Nat) (ks : List Int) (most : Int) (w : World) (hE : EvsIn w lv L) (hK : Fi.Ints w.heap.size w (.slice ka kn kc) ks ∧ (∀ x ∈ ks, W64 x) ∧ ks.length ≤ 1048576) (hm1 : -9223372036854775808 ≤ most) (hm2 : most ≤ 9223372036854775807) :
    Calls Try.prog 7 #[lv, .slice ka kn kc, .int .i64 most] w fun e w' => e = .returned (.bool true) ∧ Below w.heap.size w w' := by
  obtain ⟨hEv, hLI, hLl⟩ := hE
  obtain ⟨hKi, _, hkl⟩ := hK
  obtain ⟨i0, hi0, hz0, hz1, hz2⟩ := info_parts info_inte
  have HEV := Lib.hid (fun W (hb : Below w.heap.size w W) => hEv.grow hb hb.size)
  have HKI := Lib.hid (fun W (hb : Below w.heap.size w W) => show Fi.Ints W.heap.size W (.slice ka kn kc) ks from by
    obtain ⟨a, cap, b, off, h1, h2, h3⟩ := hKi.below hb
    exact ⟨a, cap, b, off, h1, fun h => ⟨(h2 h).1, Nat.lt_of_lt_of_le (h2 h).2 hb.size⟩, h3⟩)
  have HHAS := Lib.hid (fun (k : Int) W (hb : Below w.heap.size w W) => hasR_any (.slice ka kn kc) ks k W (hKi.below hb) (by omega))
  have hsl : ∃ a n c, lv = .slice a n c := by obtain ⟨a, c, b, o, h, _⟩ := hEv; exact ⟨a, _, c, h⟩
  have HOF := Lib.hid (fun W (hb : Below w.heap.size w W) => of_any lv (.slice ka kn kc) ks W hsl (HKI.out W hb) hkl)
  obtain ⟨la, lc, lb, lo, rfl, hla, hlc⟩ := hEv
  have HLA := Lib.hid hla
  have HLC := Lib.hid hlc
  clear hla hlc hLI hsl hKi
  have hA : Below w.heap.size w ((w.alloc (.cells #[.slice la L.length lc] 38)).alloc (.cells #[.int .i64 most] 3)) := ((Below.refl _ _).alloc (Nat.le_refl _) _).alloc (by simp) _
  have q3 := (Boxed.new w 38 (.slice la L.length lc)).alloc (.cells #[.int .i64 most] 3)
  have q5 : Boxed ((w.alloc (.cells #[.slice la L.length lc] 38)).alloc (.cells #[.int .i64 most] 3)) (w.heap.size + 1) 3 (.int .i64 most) := by
    have := Boxed.new (w.alloc (.cells #[.slice la L.length lc] 38)) 3 (.int .i64 most)
    rwa [World.size_alloc] at this
  have HS := Lib.hid (shown_any ((w.alloc (.cells #[.slice la L.length lc] 38)).alloc (.cells #[.int .i64 most] 3)))
  have hsA : ((w.alloc (.cells #[.slice la L.length lc] 38)).alloc (.cells #[.int .i64 most] 3)).heap.size = w.heap.size + 2 := by simp
  refine (callsIn_wide (n := 12)).1 ?_
  refine callsIn_of_wp_marks Try.func7 rfl trivial ?_ rfl
  refine wpIn_wide.2 ?_
  simp only [Try.ntmps7, List.size_toArray, List.length_cons, List.length_nil, Nat.reduceAdd, Nat.reduceSub, Array.replicate_succ, Array.replicate_zero, List.push_toArray, List.append_toArray, List.nil_append, List.cons_append]
  go_wp2_with (go_at_call 9; (with_reducible refine HS.out.mono ?_); rintro e w1 ⟨rfl, hb1⟩; have hB1 := hA.trans (hb1.mono hA.size); have q31 := (Sq.Kept.of_below (T := fun _ => True) hb1).boxed trivial q3; have q51 := (Sq.Kept.of_below (T := fun _ => True) hb1).boxed trivial q5)
  have hs1 := hb1.size
  have hq8 := Boxed.new w1 47 (.slice none 0 0)
  have hB2 := Lib.hid (hB1.alloc hB1.size (.cells #[.slice none 0 0] 47))
  have hq3 := Lib.hid (q31.alloc (.cells #[.slice none 0 0] 47))
  have hq5 := Lib.hid (q51.alloc (.cells #[.slice none 0 0] 47))
  clear q3 q5 q31 q51 hb1 hA hB1 HS
  go_loopw [9] (fun i wr => ∃ (q : Nat) (v : Value), q ≤ L.length ∧ i = .int .i64 (q : Int) ∧ Boxed wr w1.heap.size 47 v ∧ wr.ownsRow (w1.heap.size + 1) 3 1 v (wkN L ks q).length (iC (pls (wkN L ks q))) ∧ Boxed wr w.heap.size 38 (.slice la L.length lc) ∧ Boxed wr (w.heap.size + 1) 3 (.int .i64 most) ∧ Below w.heap.size w wr ∧ w1.heap.size + 1 ≤ wr.heap.size) (fun i _ => L.length - (intOf i).toNat)
  case atStart => exact ⟨0, _, Nat.zero_le _, rfl, hq8, World.ownsRow_nil _ _ _ _, hq3.out, hq5.out, hB2.out, by simp⟩
  case round =>
    clear hq8 hq3 hq5 hB2
    obtain ⟨q, v, hq, rfl, b8, hrow, b3, b5, hB, hsz⟩ := hrel
    obtain ⟨wo, rfl⟩ : ∃ wo : World, wo = wr := ⟨_, rfl⟩
    have hbs := hB.size
    have c3 := b3.cell
    have l3 := b3.lt
    by_cases hlt : q < L.length
    · obtain ⟨rfl, hlb⟩ := HLA.out (by omega)
      have hAT := (HLC.out q hlt).below hB hlb
      have hi1 : (0 : Int) ≤ (q : Int) ∧ (q : Int) < (L.length : Int) := by omega
      have hwb : lb < wo.heap.size := by omega
      have e2 := hAT 2 (by decide)
      have HH := Lib.hid (fun W hb => HHAS.out L[q].kind W hb)
      have HYES := Lib.hid (fun h => wkN_yes (ks := ks) hlt h)
      have HNO := Lib.hid (fun h => wkN_no (ks := ks) hlt h)
      have hwl := wkN_len L ks q
      clear hAT HLC
      generalize L[q] = x at *
      generalize hp1 : wkN L ks q = P at *
      generalize hp2 : wkN L ks (q + 1) = P2 at *
      obtain ⟨xi, xt, xk, xa, xb, xc, xd, xe, xf⟩ := x
      unfold evC at e2
      simp only [List.getElem?_cons_zero, List.getElem?_cons_succ, Nat.add_zero] at e2
      simp only at HYES HNO HH
      generalize hasB ks xk = hb at *
      cases hb with
      | false =>
        obtain rfl := HNO.out rfl
        clear HYES HNO
        go_wp2_with (go_at_call 27; (with_reducible refine (HH.out _ hB).mono ?_); rintro e w2 ⟨rfl, rfl⟩)
        go_roundw
        case rel => exact ⟨q + 1, v, by omega, by go_num, b8, by rw [hp2]; exact hrow, b3, b5, hB, hsz⟩
        case measure => simp [intOf]; omega
      | true =>
        obtain rfl := HYES.out rfl
        clear HYES HNO
        obtain ⟨ao, cap, rfl, _⟩ := Sq.row_cases hrow
        have c8 := b8.cell
        have g8 := b8.frozen
        have l8 := b8.lt
        have HROW := Lib.hid hrow
        have hno : ∀ k, k < w1.heap.size + 1 → (Value.slice ao P.length cap).ownBlock ≠ some k := fun k hk e => by have := (Ob.row_lt hrow e).1; omega
        have HNN := Lib.hid hno
        clear hrow hno
        go_wp2_with (first
          | (go_at_call 27; (with_reducible refine (HH.out _ hB).mono ?_); rintro e w2 ⟨rfl, rfl⟩)
          | (at_builtin; refine wpList_append_own _ rfl _ _ 47 rfl (w1.heap.size + 1) 3 i0 (.int .i64 0) 1 8 Try.underlying47 hi0 hz0 hz1 hz2 rfl (by decide) _ _ _ rfl (HROW.out.alloc _) ⟨wo.heap.size, 0, none⟩ 1 1 [_] rfl rfl (cell_one_new _ _ _) (by simp [Value.oneCell']) (by unfold maxLen; omega) (by omega) (by simp; omega) ?_; intro v' w2 hown2 hgrow _; obtain ⟨ao2, cap2, rfl, _⟩ := Sq.row_cases hown2; have b82 := (b8.alloc (.cells #[.int .i64 (q : Int)] 3)).kept hgrow (Ne.symm (HNN.out _ (by omega))); have b32 := (b3.alloc (.cells #[.int .i64 (q : Int)] 3)).kept hgrow (Ne.symm (HNN.out _ (by omega))); have b52 := (b5.alloc (.cells #[.int .i64 (q : Int)] 3)).kept hgrow (Ne.symm (HNN.out _ (by omega))); have hB2 := (hB.alloc hbs (.cells #[.int .i64 (q : Int)] 3)).grown hgrow (by simp; omega) (fun j hj => by have := (Ob.row_lt HROW.out hj).1; omega); have hsz2 := hgrow.size; have c82 := b82.cell; have g82 := b82.frozen))
        go_roundw
        case rel => exact ⟨q + 1, _, by omega, by go_num, b82.set _, by rw [hp2, pls_snoc, List.length_append, List.length_singleton]; exact Ob.row_other (by simpa [iC] using hown2) (p := ⟨w1.heap.size, 0, none⟩) (fun e => by have := (Ob.row_lt hown2 e).1; simp at this; omega) _, b32.other (by show w.heap.size ≠ w1.heap.size; omega) _, b52.other (by show w.heap.size + 1 ≠ w1.heap.size; omega) _, hB2.setCell (p := ⟨w1.heap.size, 0, none⟩) (by simp; omega) _, by simp at hsz2 ⊢; omega⟩
        case measure => simp [intOf]; omega
    · obtain rfl : q = L.length := by omega
      change wo.ownsRow (w1.heap.size + 1) 3 1 v (wk L ks).length (iC (pls (wk L ks))) at hrow
      obtain ⟨wb, hwb⟩ : ∃ wb, (wo.alloc (.cells #[.int .i64 0] 3)).alloc (.cells #[.bool true] 4) = wb := ⟨_, rfl⟩
      have hzb : wo.heap.size + 2 ≤ wb.heap.size ∧ wb.heap.size ≤ wo.heap.size + 2 := by rw [← hwb]; simp
      have hBb : Below w.heap.size w wb := by rw [← hwb]; exact (hB.alloc hbs _).alloc (by simp; omega) _
      have kb : Sq.Kept (fun _ => True) wo wb := by rw [← hwb]; exact (Sq.Kept.alloc _ _ _).trans (Sq.Kept.alloc _ _ _)
      have n0 : Boxed wb wo.heap.size 3 (.int .i64 0) := by rw [← hwb]; exact (Boxed.new wo _ _).alloc _
      have g0 : Boxed wb (wo.heap.size + 1) 4 (.bool true) := by
        rw [← hwb]; have := Boxed.new (wo.alloc (.cells #[.int .i64 0] 3)) 4 (.bool true); rwa [World.size_alloc] at this
      have b3b := kb.boxed trivial b3
      have b5b := kb.boxed trivial b5
      have b8b := kb.boxed trivial b8
      have l8 := b8.lt
      have HRB := Lib.hid (Sq.row_kept hrow kb (fun _ _ => trivial))
      have HRL := Lib.hid (fun g (hg : v.ownBlock = some g) => Ob.row_lt hrow hg)
      obtain ⟨va, vc, rfl, hvg⟩ := Sq.row_cases hrow
      have HVG := Lib.hid hvg
      have c3b := b3b.cell
      have l3b := b3b.lt
      clear hrow hvg b3 b5 b8
      go_wp2_with (go_at_call 28; (with_reducible refine (HOF.out _ hBb).mono ?_); rintro e w3 ⟨B2, r, rfl, hbL, hB2, hbK, hrowK, hb3⟩)
      have k3 := Sq.Kept.of_below (T := fun _ => True) hb3
      have n3 := k3.boxed trivial n0
      have g3 := k3.boxed trivial g0
      have b33 := k3.boxed trivial b3b
      have b53 := k3.boxed trivial b5b
      have b83 := k3.boxed trivial b8b
      have HR3 := Lib.hid (Sq.row_kept HRB.out k3 (fun _ _ => trivial))
      have hB3 := hBb.trans (hb3.mono hBb.size)
      have hs3 := hb3.size
      have hE3 := HEV.out w3 hB3
      have hK3 : Fi.Ints w3.heap.size w3 r ks := by
        have hlow : w3.ownsRow wb.heap.size 3 1 r ks.length (iC ks) := hrowK
        exact ints_of_own hlow
      have hTN : ∀ k, OT wb.heap.size B2 (.slice la L.length lc) r L.length ks.length k → k < w3.heap.size ∧ k ≠ wo.heap.size ∧ k ≠ wo.heap.size + 1 := by
        rintro k (rfl | rfl | ⟨h0, h⟩ | ⟨h0, h⟩)
        · exact ⟨hbL.lt, by omega, by omega⟩
        · exact ⟨hbK.lt, by omega, by omega⟩
        · obtain ⟨h1, h2⟩ := HLA.out h0
          rw [h1] at h
          simp [Value.ownBlock] at h
          exact ⟨by omega, by omega, by omega⟩
        · have := Ob.row_lt hrowK h
          exact ⟨by omega, by omega, by omega⟩
      have HTN := Lib.hid hTN
      have HNX := Lib.hid (fun (pre : List (Nat × Evt)) (p : Nat × Evt) (h : pre ++ [p] <+: wk L ks) => wk_next h)
      clear hwb hTN kb k3 n0 g0 b3b b5b b8b c3b l3b
      refine (wpIn_wide (n := 12)).1 ?_
      refine Sq.wp_range rfl (by omega) (gf := 43) (lb := #[.pointer (some ⟨wb.heap.size, 0, none⟩), .pointer (some ⟨B2, 0, none⟩)]) rfl trivial (enters_of Try.func43 (by kernel_rfl) rfl)
        (of1_seq 11 (by omega) L ks (.slice la L.length lc) r wb.heap.size B2 w3 hbL hbK hE3 hK3 hLl hkl) (fun k hk => (HTN.out k hk).1) (fun _ => rfl)
        (ewI wo.heap.size w3 most) (fun c R pre X => ewX wo.heap.size w3 most c R pre X)
        (fun a' x R pre X => ewI wo.heap.size w3 most R pre X ∧ ∃ Bf, (Ob.Obj X Bf 26 (evC x.2) ∧ ¬ R Bf ∧ w3.heap.size ≤ Bf) ∧
          a' = { tmps := #[Value.slice la L.length lc, Value.slice ka kn kc, Value.int .i64 most, Value.pointer (some ⟨w.heap.size, 0, none⟩), undef, Value.pointer (some ⟨w.heap.size + 1, 0, none⟩), Value.bool false, Value.bool true, Value.pointer (some ⟨w1.heap.size, 0, none⟩), Value.int .i64 (L.length : Int), u10, Value.pointer (some ⟨wo.heap.size, 0, none⟩), Value.pointer (some ⟨wo.heap.size + 1, 0, none⟩), Value.int .i64 (x.1 : Int), Value.pointer (some ⟨Bf, 0, none⟩), Value.bool true, Value.bool true, Value.bool false, Value.int .i64 (L.length : Int), Value.slice la L.length lc, Value.int .i64 (L.length : Int), Value.bool false, u22, u23, u24, u25, u26, u27, u28, u29, u30, u31, u32, u33, u34, u35, Value.slice la L.length lc, Value.slice ka kn kc, Value.func (.func 43) #[] #[.pointer (some ⟨wb.heap.size, 0, none⟩), .pointer (some ⟨B2, 0, none⟩)], Value.int .i64 (x.1 : Int), evV x.2, undef, undef, undef, undef, undef, undef, undef, undef, undef, undef, undef, undef, undef, undef, undef, undef, undef, undef, undef, undef, undef, undef, undef, undef, undef, undef, undef, undef, undef, undef, undef, undef, undef, undef, undef, undef, undef, undef, undef, undef], defers := [] })
        (ewI_steady _ _ _) (fun c => ewX_steady _ _ _ _)
        (fun a' x => (ewI_steady _ _ _).and (Sq.Steady.ex fun Bf => (show Sq.Steady (fun R (_ : List (Nat × Evt)) X => Ob.Obj X Bf 26 (evC x.2) ∧ ¬ R Bf ∧ w3.heap.size ≤ Bf) from fun R R' s X X' h st => by
          obtain ⟨h1, h2⟩ := Sq.step_obj st h.1 h.2.1
          exact ⟨h1, h2, h.2.2⟩).and (fun _ _ _ _ _ hs _ => hs)))
        ⟨.inr rfl, ⟨n3, fun h => h⟩, ⟨g3, fun h => h⟩, Sq.Kept.refl _ _, fun _ _ _ h => h⟩ ?assign ?body ?done ?stop
      case assign =>
        rintro lp R pre ⟨xi, x⟩ X hbd hsp hi
        have hsz : w3.heap.size ≤ X.heap.size := hi.2.2.2.1.size
        obtain ⟨x0, x1, x2, x3, x4, x5, x6, x7, x8⟩ := x
        simp only [oEnc, evV]
        gi_wp2
        refine ⟨Sq.Kept.alloc _ _ _, ewI_steady _ _ _ _ _ _ _ _ hi (Sq.Step.alloc0 _ _ _), X.heap.size, ⟨Ob.Obj.new X 26 (evC ⟨x0, x1, x2, x3, x4, x5, x6, x7, x8⟩), fun h => by have := hbd _ h; omega, hsz⟩, ?_⟩
        first | rfl | trivial
      case body =>
        rintro lr R pre ⟨xi, x⟩ a' X hRl hrec hbd hsp ⟨⟨hne, ⟨hn, hnn⟩, ⟨hg, hng⟩, hk, hnk⟩, Bf, ⟨hf, hnf, hNf⟩, rfl⟩
        obtain ⟨s1, s2, s3⟩ := HNX.out _ _ hsp
        obtain ⟨g, rfl, hg1, hg2⟩ := HVG.out (by omega)
        have hrX := Sq.row_kept HR3.out hk (fun k hk' => by have := (HRL.out k hk').2; omega)
        have ew := World.ownsRow.cellAt hrX pre.length (by simpa using s1)
        simp only [iC, pls, List.getElem?_map] at ew
        rw [s2] at ew
        simp only [Option.map_some] at ew
        obtain ⟨hxl, hxe⟩ := List.getElem?_eq_some_iff.1 s3
        simp only at hxl hxe
        obtain ⟨rfl, hlb⟩ := HLA.out (by omega)
        have hAT := ((HLC.out xi hxl).below hB3 hlb).below (hk.below (fun k h => h) (Nat.le_trans (by omega) hs3)) (by have := hB.size; omega)
        have e0 := hAT 0 (by decide)
        have e1 := hAT 1 (by decide)
        have e2 := hAT 2 (by decide)
        have e3 := hAT 3 (by decide)
        have e4 := hAT 4 (by decide)
        have e5 := hAT 5 (by decide)
        have e6 := hAT 6 (by decide)
        have e7 := hAT 7 (by decide)
        have e8 := hAT 8 (by decide)
        rw [hxe] at e0 e1 e2 e3 e4 e5 e6 e7 e8
        obtain ⟨x0, x1, x2, x3, x4, x5, x6, x7, x8⟩ := x
        unfold evC at e0 e1 e2 e3 e4 e5 e6 e7 e8 hf
        simp only [List.getElem?_cons_zero, List.getElem?_cons_succ, Nat.add_zero] at e0 e1 e2 e3 e4 e5 e6 e7 e8
        have d0 := hf.cell 0
        have d1 := hf.cell 1
        have d2 := hf.cell 2
        have d3 := hf.cell 3
        have d4 := hf.cell 4
        have d5 := hf.cell 5
        have d6 := hf.cell 6
        have d7 := hf.cell 7
        have d8 := hf.cell 8
        simp at d0 d1 d2 d3 d4 d5 d6 d7 d8
        have q3 := (hk.boxed (by omega) b33).cell
        have q5 := (hk.boxed (by omega) b53).cell
        have q8 := (hk.boxed (by omega) b83).cell
        have qn := hn.cell
        have qg := hg.cell
        have fn := hn.frozen
        have hd1 : decide (((wk L ks).length : Int) ≤ (pre.length : Int)) = false := decide_eq_false (by omega)
        have hd2 : decide ((wk L ks).length ≤ pre.length) = false := decide_eq_false (by omega)
        have hi0 : (0 : Int) ≤ (pre.length : Int) ∧ (pre.length : Int) < ((wk L ks).length : Int) := by omega
        have hi1 : (0 : Int) ≤ (xi : Int) ∧ (xi : Int) < (L.length : Int) := by omega
        have HK := Lib.hid hk
        have HN := Lib.hid hn
        have HG := Lib.hid hg
        have hpl := s1
        clear hk hn hg hrX hAT hxe s2 s3 hsp hf
        gi_wp2_with fail
        refine Qr.region_quiet (Qr.open_round lr) (by kernel_rfl) (by kernel_rfl) (by kernel_rfl) ?_
        repeat (go_big_quiet_step (fail))
        refine wpQuiet_nil ?_
        intro _ hw'
        obtain ⟨nq, hw''⟩ := hw'
        subst hw''
        have hbnd := wkN_len L ks L.length
        have hwr : IntKind.i64.wrap ((pre.length : Int) + 1) = (pre.length : Int) + 1 := by rw [IntKind.wrap_i64]; have : pre.length < (wkN L ks L.length).length := s1; omega
        clear hbnd
        have hne1 : w.heap.size + 1 ≠ wo.heap.size := by omega
        have hne2 : wo.heap.size ≠ w.heap.size + 1 := by omega
        have hn0 : Boxed (X.drewN nq) wo.heap.size 3 (.int .i64 (pre.length : Int)) := HN.out
        have hg0 : Boxed (X.drewN nq) (wo.heap.size + 1) 4 (.bool true) := HG.out
        have kD : Sq.Kept (fun _ => True) X (X.drewN nq) := Sq.Kept.drewN _ _ _
        have q5D : (X.drewN nq).cell? ⟨w.heap.size + 1, 0, none⟩ = some (.int .i64 most) := q5
        generalize X.drewN nq = Xd at *
        have qn := hn0.cell
        have fn := hn0.frozen
        have hPL := Lib.hid (show ((pre ++ [(xi, (⟨x0, x1, x2, x3, x4, x5, x6, x7, x8⟩ : Evt))]).length : Int) = (pre.length : Int) + 1 by simp)
        clear e0 e1 e2 e3 e4 e5 e6 e7 e8 d0 d1 d2 d3 d4 d5 d6 d7 d8 ew q3 q8 hd1 hd2
        by_cases hl : (pre.length : Int) + 1 = most
        · have hl1 : ((pre.length : Int) + 1 == most) = true := by simpa using hl
          have HL := Lib.hid hl
          clear hl
          gi_wp2_with fail
          refine ⟨(kD.less fun _ _ _ => trivial).trans (Sq.Kept.setCell _ _ (by rintro (h | h); exact hnn h; exact (HTN.out _ h).2.1 rfl)), ⟨rfl, by rw [hPL.out]; exact HL.out⟩, ⟨by rw [hPL.out]; exact hn0.set _, hnn⟩, ⟨hg0.other (by show wo.heap.size + 1 ≠ wo.heap.size; omega) _, hng⟩, (HK.out.trans (kD.less fun _ _ _ => trivial)).trans (Sq.Kept.setCell _ _ (by simp)), hnk⟩
        · have hl1 : ((pre.length : Int) + 1 == most) = false := by simpa using hl
          have HL := Lib.hid hl
          clear hl
          gi_wp2_with fail
          refine ⟨(kD.less fun _ _ _ => trivial).trans (Sq.Kept.setCell _ _ (by rintro (h | h); exact hnn h; exact (HTN.out _ h).2.1 rfl)), .inl (by rw [hPL.out]; exact HL.out), ⟨by rw [hPL.out]; exact hn0.set _, hnn⟩, ⟨hg0.other (by show wo.heap.size + 1 ≠ wo.heap.size; omega) _, hng⟩, (HK.out.trans (kD.less fun _ _ _ => trivial)).trans (Sq.Kept.setCell _ _ (by simp)), hnk⟩
      case done =>
        rintro D R ys X hD hRD rfl ⟨hne, ⟨hn, hnn⟩, ⟨hg, hng⟩, hk, hnk⟩ hdf
        have q5 := (hk.boxed (by omega) b53).cell
        have q8 := (hk.boxed (by omega) b83).cell
        have qn := hn.cell
        have qg := hg.cell
        have l5 := (hk.boxed (by omega) b53).lt
        have l8' := (hk.boxed (by omega) b83).lt
        have ln := hn.lt
        have lg := hg.lt
        have HDF := Lib.hid hdf
        have HBW := Lib.hid (show Sq.Kept (fun b => b < w.heap.size) w X from (show Sq.Kept (fun b => b < w.heap.size) w w3 from ⟨hB3.os, hB3.tape, hB3.output, hB3.size, fun k h _ => hB3.block k h⟩).trans (hk.less fun k h _ => by have := hB.size; omega))
        clear hn hg hk hne
        go_wp2
        all_goals
          refine Sq.leaves_marks [D] _ (by simp) (fun E hE => ?_) (fun W' hk' => ⟨.bool true, by simp [results, Try.results7, go_sem], rfl, ?_⟩)
          · obtain rfl : E = D := by simpa using hE
            exact HDF.out
          · exact (HBW.out.trans (hk'.less (fun b hb _ h => by simp at h; omega))).below (fun _ h => h) (Nat.le_refl _)
      case stop =>
        rintro D R c pre X hD hRD hsp ⟨⟨rfl, hm⟩, ⟨hn, hnn⟩, ⟨hg, hng⟩, hk, hnk⟩ hdf
        have hm2 : ((pre.length : Int) == most) = true := by simpa using hm
        have q5 := (hk.boxed (by omega) b53).cell
        have q8 := (hk.boxed (by omega) b83).cell
        have qn := hn.cell
        have qg := hg.cell
        have l5 := (hk.boxed (by omega) b53).lt
        have l8' := (hk.boxed (by omega) b83).lt
        have ln := hn.lt
        have lg := hg.lt
        have HDF := Lib.hid hdf
        have HBW := Lib.hid (show Sq.Kept (fun b => b < w.heap.size) w X from (show Sq.Kept (fun b => b < w.heap.size) w w3 from ⟨hB3.os, hB3.tape, hB3.output, hB3.size, fun k h _ => hB3.block k h⟩).trans (hk.less fun k h _ => by have := hB.size; omega))
        clear hn hg hk hm
        gi_wp2
        go_wp2
        all_goals
          refine Sq.leaves_marks [D] _ (by simp) (fun E hE => ?_) (fun W' hk' => ⟨.bool true, by simp [results, Try.results7, go_sem], rfl, ?_⟩)
          · obtain rfl : E = D := by simpa using hE
            exact HDF.out
          · exact (HBW.out.trans (hk'.less (fun b hb _ h => by simp at h; omega))).below (fun _ h => h) (Nat.le_refl _)

theorem eventWalks_fr (a : Option Addr) (n cap : Nat) (L : List Evt) (ka : Option Addr) (kn kc : Nat) (ks : List Int) (most : Int) (w : World) (hE : EvsIn w (.slice a n cap) L) (hK : Fi.Ints w.heap.size w (.slice ka kn kc) ks ∧ (∀ x ∈ ks, W64 x) ∧ ks.length ≤ 1048576) (hm1 : -9223372036854775808 ≤ most) (hm2 : most ≤ 9223372036854775807) :
    Calls Try.prog 7 #[.slice a n cap, .slice ka kn kc, .int .i64 most] w fun e w' => e = .returned (.bool true) ∧ Below w.heap.size w w' := eventWalks_law _ L ka kn kc ks most w hE hK hm1 hm2
end Ev
end Go.Proofs.Ytojbcdkiilcppaa
