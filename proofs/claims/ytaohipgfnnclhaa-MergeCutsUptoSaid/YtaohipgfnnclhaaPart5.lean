import Derived.RecoverIn
import Derived.Sort.CutIn
import Derived.Deep.AppendLies
import Derived.Shelf.Abstract
import Derived.Shelf.RegionOpen
import Derived.OwnWalkIn
import Derived.TacticsInMore
import Derived.LoopNIn
import Derived.LoopIn
import Derived.Deep.RegionHeld3
import Derived.Deep.CutRange
import Derived.Test.YtaohipgfnnclhaaPart4
/-
  The program's merge: through (a sequence that was handed in, nil or not, each version in memory of its own; a panic of the sequence's own would end it: none comes).
-/
namespace Go.Proofs.Ytaohipgfnnclhaa
open Go.RowKit Go.Shelf
set_option linter.unusedSimpArgs false
set_option linter.unusedVariables false
namespace Mg
open Mt (Ver mayB lessB placeB VerIn verV)
open Vs (Vers At vcs)
open Tb (ver0 getD_at own_after lower_row)
attribute [local go_sem] Oper.semAt_some

set_option maxRecDepth 100000 in
set_option maxHeartbeats 4000000 in
/-- the deferred literal where nothing panics -/
theorem rec_any (n : Nat) (B : Nat) (w : World) (hB : Boxed w B 4 (.bool false)) :
    CallsDIn Fence.wide n Try.prog 64 #[.pointer (some ⟨B, 0, none⟩)] .returning w fun e u w' => (∃ v, e = .returned v) ∧ u = .returning ∧ w' = w := by
  have hc := hB.cell
  have hf := hB.frozen
  refine callsDIn_of_wpSIn Try.func64 rfl trivial fun c₀ cs hu => ?_
  have hrec : recoverD (c₀ :: cs) = none := by simp [recoverD, hu]
  simp only [Try.ntmps64, List.size_toArray, List.length_cons, List.length_nil, Nat.reduceAdd, Nat.reduceSub, Array.replicate_succ, Array.replicate_zero, List.push_toArray, List.append_toArray, List.nil_append, List.cons_append]
  refine wpSIn_seq ?_
  refine wpSIn_region ?_
  simp [wpOpsSIn, go_sem, Exit.thenS, hc, Oper.about, resolve, Target.leads]
  refine wpSIn_cond (t := true) (by simp [Act.eval]) ?_
  simp only [if_true]
  refine wpSIn_region ?_
  simp [wpOpsSIn, go_sem, hrec, Oper.about, resolve, Target.leads]
  exact ⟨rfl, .returning, by rw [← hu], .tuple #[], results_none rfl _ _ _, ⟨_, rfl⟩, rfl, rfl⟩

/-- what a yield answers, the two ways as one -/
structure YR {α : Type} (J Jx : Sq.Blocks → List α → World → Prop) (R T : Sq.Blocks) (p : List α) (W1 : World) (b : Bool) (W' : World) : Prop where
  on : b = true → J R p W'
  off : b = false → Jx R p W'
  kept : Sq.Kept (fun k => R k ∨ T k) W1 W'
theorem yr_of {α : Type} {J Jx : Sq.Blocks → List α → World → Prop} {R T : Sq.Blocks} {p : List α} {W1 W' : World} {e : Ending}
    (h : (e = .returned (.bool true) ∧ J R p W' ∧ Sq.Kept (fun k => R k ∨ T k) W1 W') ∨ (e = .returned (.bool false) ∧ Jx R p W' ∧ Sq.Kept (fun k => R k ∨ T k) W1 W')) : ∃ b : Bool, e = .returned (.bool b) ∧ YR J Jx R T p W1 b W' := by
  rcases h with ⟨rfl, h1, h2⟩ | ⟨rfl, h1, h2⟩
  · exact ⟨true, rfl, fun _ => h1, fun h => (by cases h), h2⟩
  · exact ⟨false, rfl, fun h => (by cases h), fun _ => h1, h2⟩

set_option maxRecDepth 100000 in
set_option maxHeartbeats 4000000 in
/-- THROUGH TELLS WHAT IS TOLD. -/
theorem through1_seq (n : Nat) (hn : 5 ≤ n) (sv : Value) (L : List Ver) (T : Sq.Blocks) (hL : ∀ x ∈ L, VerIn x) (B : Nat) (w : World) (hB : Boxed w B 26 sv) (hT : Tells w sv L T) :
    Sq.SeqC Fence.wide n Try.prog 63 #[.pointer (some ⟨B, 0, none⟩)] vEnc9 (fun k => k = B ∨ T k) (fun ys => ys = L) (fun pre => pre <+: L) w := by
  intro lp J Jx W hW hJ hJx hY h0
  have hBW := hW.boxed (.inl rfl) hB
  have hcB := hBW.cell
  have hlB := hBW.lt
  have hTW := hT.kept (hW.less fun k h _ => .inr h)
  obtain ⟨gf, lb, hsv, eg, hTl, hseq⟩ := hTW
  subst hsv
  have HSEQ := Lib.hid hseq
  have HTL := Lib.hid hTl
  have HY := Lib.hid (fun R pre x W1 h1 h2 h3 => (hY R pre x W1 h1 h2 h3))
  clear hseq hTl hY
  have hn1 : 1 ≤ n := by omega
  refine callsIn_of_wp_marks Try.func63 rfl trivial ?_ rfl
  simp only [Try.ntmps63, List.size_toArray, List.length_cons, List.length_nil, Nat.reduceAdd, Nat.reduceSub, Array.replicate_succ, Array.replicate_zero, List.push_toArray, List.append_toArray, List.nil_append, List.cons_append]
  have hmf : ∀ (fn : Fn) (first cap : Array Value) (w : World), (Instr.makeFunc fn first cap).run Try.prog w = .ok (.func fn first cap) w := fun _ _ _ _ => rfl
  have hne : ∀ (w : World), (binOp BinOp.eql 26 (.func (.func gf) #[] lb) .nilFunc).run Try.prog w = .ok (.bool false) w := fun w => by
    simp [binOp, go_sem]
    rfl
  gi_wp2_with fail
  clear hne hmf
  obtain ⟨W0, hW0⟩ : ∃ W0, (W.alloc (.cells #[.func (.yield lp) #[] #[]] 63)).alloc (.cells #[.bool false] 4) = W0 := ⟨_, rfl⟩
  have hsz : W0.heap.size = W.heap.size + 2 := by rw [← hW0]; simp
  have bY : Boxed W0 W.heap.size 63 (.func (.yield lp) #[] #[]) := by rw [← hW0]; exact (Boxed.new W _ _).alloc _
  have bA : Boxed W0 (W.heap.size + 1) 4 (.bool false) := by
    rw [← hW0]; have := Boxed.new (W.alloc (.cells #[.func (.yield lp) #[] #[]] 63)) 4 (.bool false)
    rw [World.size_alloc] at this; exact this
  obtain ⟨M, hM⟩ : ∃ M : Sq.Blocks, M = fun k => W.heap.size ≤ k ∧ k < W.heap.size + 2 := ⟨_, rfl⟩
  have hMm : ∀ k, M k ↔ W.heap.size ≤ k ∧ k < W.heap.size + 2 := fun k => by rw [hM]
  have hJ0 : J (fun k => False ∨ M k) [] W0 := hJ _ _ _ _ _ h0 ⟨by rw [← hW0]; exact (Sq.Kept.alloc _ _ _).trans (Sq.Kept.alloc _ _ _), fun _ h => h.elim, fun k h => h.elim (fun h => h.elim) (fun h => .inr ((hMm k).1 h).1)⟩
  have hkT : Sq.Kept T W W0 := by rw [← hW0]; exact (Sq.Kept.alloc _ _ _).trans (Sq.Kept.alloc _ _ _)
  rw [hW0]
  clear hW0 hM
  have hleave : ∀ (tmps : Array Value) (D : Nat) (X : World) (Rf : Ending → World → Prop), D ≠ W.heap.size + 1 → Boxed X (W.heap.size + 1) 4 (.bool false) → X.heap[D]? = some (.deferred (some [])) →
      (∀ X', Sq.Kept (fun k => k ≠ D) X X' → LeavesIn Fence.wide n Try.prog Try.f63 tmps Rf [] .returning X') →
      LeavesInM Fence.wide n Try.prog Try.f63 tmps Rf [{ target := .collected D, args := #[] }, { target := .fn (.func 64) #[.pointer (some ⟨W.heap.size + 1, 0, none⟩)], args := #[] }] .returning X := by
    intro tmps D X Rf hD hb hdf h
    refine ⟨by simp, .inl ⟨_, _, rfl, run_takeDeferred hdf, ?_⟩⟩
    refine ⟨by simp, .inr ⟨fun h => (by cases h), _, _, 64, #[.pointer (some ⟨W.heap.size + 1, 0, none⟩)], rfl, ?_, fun _ _ => trivial, ?_⟩⟩
    · simp [invoke, go_sem, enters_of Try.func64 (by kernel_rfl) rfl]
    · refine (rec_any (n - 1) (W.heap.size + 1) _ (show Boxed (X.putObj D (.deferred none)) _ _ _ from (World.putObj_heap_other (fun e => hD e.symm)).trans hb)).mono ?_
      rintro e u' w' ⟨⟨v, rfl⟩, rfl, rfl⟩
      exact h _ (Sq.Kept.putObj _ _ (fun h => h rfl))
  refine Sq.wp_range rfl (by omega) (gf := gf) (lb := lb) rfl trivial eg (Sq.seqC_any (n - 1) (HSEQ.out W0 hkT)) (fun k hk => by have := HTL.out k hk; omega) (fun _ => rfl)
    (fun R pre X => J (fun k => R k ∨ M k) pre X ∧ (Boxed X (W.heap.size + 1) 4 (.bool false) ∧ ¬ R (W.heap.size + 1)) ∧ (Boxed X W.heap.size 63 (.func (.yield lp) #[] #[]) ∧ ¬ R W.heap.size))
    (fun c R pre X => c = .ret ∧ Jx (fun k => R k ∨ M k) pre X ∧ (Boxed X (W.heap.size + 1) 4 (.bool false) ∧ ¬ R (W.heap.size + 1)))
    (fun a' x R pre X => (J (fun k => R k ∨ M k) pre X ∧ (Boxed X (W.heap.size + 1) 4 (.bool false) ∧ ¬ R (W.heap.size + 1)) ∧ (Boxed X W.heap.size 63 (.func (.yield lp) #[] #[]) ∧ ¬ R W.heap.size)) ∧
      ∃ Bf, (Ob.Obj X Bf 57 [.string (Cd.bs x.key), .int .u64 x.seq, .bool x.del, .string (Cd.bs x.val)] ∧ ¬ R Bf ∧ ¬ M Bf) ∧
      a' = { tmps := #[.func (.yield lp) #[] #[], .pointer (some ⟨B, 0, none⟩), .pointer (some ⟨W.heap.size, 0, none⟩), .pointer (some ⟨W.heap.size + 1, 0, none⟩), .pointer (some ⟨Bf, 0, none⟩), undef, .func (.func gf) #[] lb, .bool false, .func (.func 64) #[] #[.pointer (some ⟨W.heap.size + 1, 0, none⟩)], .func (.func gf) #[] lb, .agg #[.string (Cd.bs x.key), .int .u64 x.seq, .bool x.del, .string (Cd.bs x.val)], undef, undef, undef, undef, undef, undef], defers := [] })
    ((hJ.or M (fun l => l)).and ((Sq.Steady.box _ _ _).and (Sq.Steady.box _ _ _)))
    (fun c => (Sq.Steady.pure _).and ((hJx.or M (fun l => l)).and (Sq.Steady.box _ _ _)))
    (fun a' x => ((hJ.or M (fun l => l)).and ((Sq.Steady.box _ _ _).and (Sq.Steady.box _ _ _))).and (Sq.Steady.ex fun Bf => (show Sq.Steady (fun R (_ : List Ver) X => Ob.Obj X Bf 57 [.string (Cd.bs x.key), .int .u64 x.seq, .bool x.del, .string (Cd.bs x.val)] ∧ ¬ R Bf ∧ ¬ M Bf) from fun R R' s X X' h st => by
      obtain ⟨h1, h2⟩ := Sq.step_obj st h.1 h.2.1
      exact ⟨h1, h2, h.2.2⟩).and (fun _ _ _ _ _ hs _ => hs)))
    ⟨hJ0, ⟨bA, fun h => h⟩, bY, fun h => h⟩ ?assign ?body ?done ?stop
  case assign =>
    rintro lr R pre x X hbd hsp ⟨hj, ⟨hb, hnb⟩, hy, hny⟩
    have hszX := hb.lt
    gi_wp2
    refine ⟨Sq.Kept.alloc _ _ _, ⟨hJ _ _ _ _ _ hj (Sq.Step.alloc0 _ _ _), ⟨hb.alloc _, hnb⟩, hy.alloc _, hny⟩, X.heap.size, ⟨Ob.Obj.new X _ _, fun h => by have := hbd _ h; omega, fun h => by have := (hMm _).1 h; omega⟩, ?_⟩
    first | rfl | trivial
  case body =>
    rintro lr R pre x a' X hRl hrec hbd hsp ⟨⟨hj, ⟨hb, hnb⟩, hy, hny⟩, Bf, ⟨hf, hnf, hmf⟩, rfl⟩
    have hxi := hL x (hsp.subset (by simp))
    have HOWN := Lib.hid (fun X => own_any x.key x.val x.seq x.del X (by have := hxi; unfold VerIn at this; omega) (by have := hxi; unfold VerIn at this; omega))
    have mixed : Try.prog.follows .mixedOrders = true := by kernel_rfl
    have hszX : W.heap.size + 2 ≤ X.heap.size := by have := hb.lt; omega
    have hcb := hb.cell
    have hfb := hb.frozen
    have hnl : ¬ M lr := fun h => by have := (hMm _).1 h; have := hbd lr hRl; omega
    have hMb : M (W.heap.size + 1) := (hMm _).2 (by omega)
    have hMy : M W.heap.size := (hMm _).2 (by omega)
    have hTb : ¬ T (W.heap.size + 1) := fun h => by have := HTL.out _ h; omega
    have hne1 : Bf ≠ W.heap.size + 1 := fun e => hmf (e ▸ hMb)
    obtain ⟨X1, hX1⟩ : ∃ X1, X.setCell ⟨W.heap.size + 1, 0, none⟩ (.bool true) = X1 := ⟨_, rfl⟩
    have st1 : Sq.Step (fun k => R k ∨ M k) (fun k => R k ∨ M k) X X1 := by rw [← hX1]; exact Sq.Step.setCell _ _ (.inr hMb)
    have hb1 : Boxed X1 (W.heap.size + 1) 4 (.bool true) := by rw [← hX1]; exact hb.set _
    have hy1 : Boxed X1 W.heap.size 63 (.func (.yield lp) #[] #[]) := by rw [← hX1]; exact hy.other (by simp) _
    have hf1 : Ob.Obj X1 Bf 57 [.string (Cd.bs x.key), .int .u64 x.seq, .bool x.del, .string (Cd.bs x.val)] := by rw [← hX1]; exact hf.other hne1 _
    have hk1 : Sq.Kept (fun k => R k ∨ T k) X X1 := by rw [← hX1]; exact Sq.Kept.setCell _ _ (fun h => h.elim hnb hTb)
    have HYY := Lib.hid (fun X9 (hst : Sq.Step (fun k => R k ∨ M k) (fun k => R k ∨ M k) X X9) => Sq.anyDepth rfl (n - 1 - 1 - 1) (HY.out (fun k => R k ∨ M k) pre x X9 (hJ _ _ _ _ _ hj hst) (fun k h => h.elim (fun h => by have := hbd k h; have := hst.kept.size; omega) (fun h => by have := (hMm k).1 h; have := hst.kept.size; omega)) hsp))
    have HST := Lib.hid st1
    have HK1 := Lib.hid hk1
    have HB1 := Lib.hid hb1
    have hc9 := fun X9 (h : Below X1.heap.size X1 X9) => ((show Boxed X9 W.heap.size 63 (.func (.yield lp) #[] #[]) from Ob.Obj.below (W := X1) hy1 h).cell)
    have HC9 := Lib.hid hc9
    have HY1 := Lib.hid (fun X9 (h : Below X1.heap.size X1 X9) => show Boxed X9 W.heap.size 63 (.func (.yield lp) #[] #[]) from Ob.Obj.below (W := X1) hy1 h)
    clear hc9
    have hcy := hy1.cell
    have g0 := hf1.cell 0
    have g1 := hf1.cell 1
    have g2 := hf1.cell 2
    have g3 := hf1.cell 3
    simp at g0 g1 g2 g3
    have hlt1 : W.heap.size < X1.heap.size := hy1.lt
    have hltB := hf1.lt
    clear hf hy hb st1 hk1 hb1 hf1 hy1
    gi_wp2_with fail
    clear hX1
    gi_cut [5] from 11 (fun u wx => ∃ b X9, u = .bool b ∧ Below X1.heap.size X1 X9 ∧ YR J Jx (fun k => R k ∨ M k) (fun k => k = B ∨ T k) (pre ++ [x]) X9 b wx)
    case first =>
      gi_region_with_o (first
        | (refine ⟨trivial, fun h => (by cases h), ?_⟩; gi_at_call 65; refine (CallsIn.inRound lr (callsIn_wide.2 (HOWN.out _))).mono ?_; rintro e w9 ⟨rfl, hb9⟩; have hX9 : Below X1.heap.size X1 w9 := (Below.refl _ _).drew.trans hb9; have hcy9 := HC9.out w9 hX9; obtain ⟨fn, tmps, assign, body, hyy, hR⟩ := HYY.out w9 (HST.out.trans (Sq.Step.below hX9)); have HR := Lib.hid hR; clear hR; simp only [vEnc9] at hyy)
        | (refine ⟨fun h => (by cases h), ?_⟩; refine (Sq.round_in lr HR.out).mono ?_; intro e X3 h3; obtain ⟨b, rfl, h4⟩ := yr_of h3; have H3 := Lib.hid h4; clear h3 h4))
      all_goals (try gi_wp2_with fail)
      all_goals gi_meet
      all_goals exact ⟨b, w9, rfl, hX9, H3.out⟩
    case rest =>
      obtain ⟨b, X9, rfl, hX9, hyr⟩ := hcut
      have hb3 : Boxed wc (W.heap.size + 1) 4 (.bool true) := hyr.kept.boxed (.inl (.inr hMb)) (Ob.Obj.below (W := X1) HB1.out hX9)
      have hc3 := hb3.cell
      have hf3 := hb3.frozen
      have hkk : Sq.Kept (fun k => R k ∨ T k) X (wc.setCell ⟨W.heap.size + 1, 0, none⟩ (.bool false)) := by
        refine (HK1.out.trans (Sq.Kept.of_below hX9)).trans ((hyr.kept.less ?_).trans (Sq.Kept.setCell _ _ (fun h => h.elim hnb hTb)))
        rintro k (h | h) _
        · exact .inl (.inl h)
        · exact .inr (.inr h)
      have hbx : Boxed (wc.setCell ⟨W.heap.size + 1, 0, none⟩ (.bool false)) (W.heap.size + 1) 4 (.bool false) := hb3.set _
      have hyx : Boxed (wc.setCell ⟨W.heap.size + 1, 0, none⟩ (.bool false)) W.heap.size 63 (.func (.yield lp) #[] #[]) := by
        refine Boxed.other (hyr.kept.boxed (.inl (.inr hMy)) ?_) (by simp) _
        exact HY1.out X9 hX9
      have HKK := Lib.hid hkk
      have HYR := Lib.hid hyr
      have HBX := Lib.hid hbx
      have HYX := Lib.hid hyx
      clear hkk hyr hbx hyx
      cases b with
      | true =>
        gi_wp2_with fail
        exact ⟨HKK.out, hJ _ _ _ _ _ (HYR.out.on rfl) (Sq.Step.setCell _ _ (.inr hMb)), ⟨HBX.out, hnb⟩, HYX.out, hny⟩
      | false =>
        gi_wp2_with fail
        exact ⟨HKK.out, rfl, hJx _ _ _ _ _ (HYR.out.off rfl) (Sq.Step.setCell _ _ (.inr hMb)), HBX.out, hnb⟩
  case done =>
    rintro D R ys X hD hRD rfl ⟨hj, ⟨hb, hnb⟩, _⟩ hdf
    gi_wp2
    refine hleave _ D X _ (by omega) hb hdf (fun X' hk => ?_)
    refine ⟨_, results_none rfl _ _ _, ⟨_, rfl⟩, .inl ⟨_, _, rfl, hJ _ _ _ _ _ hj ⟨hk.less (fun k hk' _ e => hk' (.inl (e ▸ hRD))), fun _ h => h, fun _ h => .inl h⟩⟩⟩
  case stop =>
    rintro D R c pre X hD hRD hsp ⟨rfl, hj, ⟨hb, hnb⟩⟩ hdf
    gi_wp2
    refine hleave _ D X _ (by omega) hb hdf (fun X' hk => ?_)
    refine ⟨_, results_none rfl _ _ _, ⟨_, rfl⟩, .inr ⟨_, _, hsp, hJx _ _ _ _ _ hj ⟨hk.less (fun k hk' _ e => hk' (.inl (e ▸ hRD))), fun _ h => h, fun _ h => .inl h⟩⟩⟩
end Mg
end Go.Proofs.Ytaohipgfnnclhaa

/-
  The program's merge: groups (a sequence's versions, each with whether a group begins with it).
-/
namespace Go.Proofs.Ytaohipgfnnclhaa
open Go.RowKit Go.Shelf
set_option linter.unusedSimpArgs false
set_option linter.unusedVariables false
namespace Mg
open Mt (Ver mayB lessB placeB VerIn verV)
open Vs (Vers At vcs)
open Tb (ver0 getD_at own_after lower_row)
attribute [local go_sem] Oper.semAt_some

set_option maxHeartbeats 1000000 in
theorem through_in (n : Nat) (gf : Nat) (lb : Array Value) (w : World) :
    CallsIn Fence.wide n Try.prog 47 #[.func (.func gf) #[] lb] w fun e w' => e = .returned (.func (.func 63) #[] #[.pointer (some ⟨w.heap.size, 0, none⟩)]) ∧ w' = w.alloc (.cells #[.func (.func gf) #[] lb] 26) := by
  refine callsIn_of_wp Try.func47 rfl trivial ?_ rfl
  simp only [Try.ntmps47, List.size_toArray, List.length_cons, List.length_nil, Nat.reduceAdd, Nat.reduceSub, Array.replicate_succ, Array.replicate_zero, List.push_toArray, List.append_toArray, List.nil_append, List.cons_append]
  gi_wp2
  go_ret
  exact ⟨rfl, rfl⟩
set_option maxHeartbeats 1000000 in
theorem groups_in (n : Nat) (gf : Nat) (lb : Array Value) (w : World) :
    CallsIn Fence.wide n Try.prog 36 #[.func (.func gf) #[] lb] w fun e w' => e = .returned (.func (.func 56) #[] #[.pointer (some ⟨w.heap.size, 0, none⟩)]) ∧ w' = w.alloc (.cells #[.func (.func gf) #[] lb] 26) := by
  refine callsIn_of_wp Try.func36 rfl trivial ?_ rfl
  simp only [Try.ntmps36, List.size_toArray, List.length_cons, List.length_nil, Nat.reduceAdd, Nat.reduceSub, Array.replicate_succ, Array.replicate_zero, List.push_toArray, List.append_toArray, List.nil_append, List.cons_append]
  gi_wp2
  go_ret
  exact ⟨rfl, rfl⟩

/-- a row, each version with whether a group begins with it -/
def gp (L : List Ver) : List (Ver × Bool) := (List.range L.length).map fun i => (L.getD i ver0, newG L i)
abbrev gEnc (x : Ver × Bool) : Array Value := #[.agg #[.string (Cd.bs x.1.key), .int .u64 x.1.seq, .bool x.1.del, .string (Cd.bs x.1.val)], .bool x.2]
theorem gp_len (L : List Ver) : (gp L).length = L.length := by simp [gp]
/-- behind the first n -/
def gpN (L : List Ver) (n : Nat) : List (Ver × Bool) := (List.range n).map fun i => (L.getD i ver0, newG L i)
theorem gpN_succ (L : List Ver) (n : Nat) : gpN L (n + 1) = gpN L n ++ [(L.getD n ver0, newG L n)] := by simp [gpN, List.range_succ]
theorem gpN_pre (L : List Ver) (n : Nat) (h : n ≤ L.length) : gpN L n <+: gp L := by
  unfold gpN gp
  obtain ⟨m, hm⟩ : ∃ m, L.length = n + m := ⟨L.length - n, by omega⟩
  rw [hm, List.range_add, List.map_append]
  exact List.prefix_append _ _
theorem gpN_of_pre {L : List Ver} {p : List (Ver × Bool)} (h : p <+: gp L) : p = gpN L p.length ∧ p.length ≤ L.length := by
  have hl := h.length_le
  rw [gp_len] at hl
  refine ⟨?_, hl⟩
  have h2 := gpN_pre L p.length hl
  have := List.prefix_of_prefix_length_le h h2 (by simp [gpN])
  exact this.eq_of_length (by simp [gpN])
/-- the key of the group at hand, whether there is one -/
def kbK (pre : List Ver) : List UInt8 := match pre.getLast? with | none => [] | some y => y.key
def kbB (pre : List Ver) : Bool := match pre.getLast? with | none => false | some _ => true
theorem kb_snoc (pre : List Ver) (x : Ver) : kbK (pre ++ [x]) = x.key ∧ kbB (pre ++ [x]) = true := by simp [kbK, kbB]
theorem newG_kb {L pre : List Ver} {x : Ver} (h : pre ++ [x] <+: L) : newG L pre.length = (!kbB pre || !(x.key == kbK pre)) := by
  rw [newG_pre h]
  unfold kbB kbK
  cases pre.getLast? <;> simp [bne]

theorem steady_size {β : Type} (N : Nat) : Sq.Steady (fun _ (_ : β) (X : World) => N ≤ X.heap.size) := fun _ _ _ _ _ hs st => Nat.le_trans hs st.kept.size

set_option maxRecDepth 100000 in
set_option maxHeartbeats 4000000 in
/-- GROUPS TELLS EACH VERSION WITH WHETHER A GROUP BEGINS WITH IT. -/
theorem groups1_seq (n : Nat) (hn : 8 ≤ n) (sv : Value) (L : List Ver) (T : Sq.Blocks) (hL : ∀ x ∈ L, VerIn x) (B : Nat) (w : World) (hB : Boxed w B 26 sv) (hT : Tells w sv L T) :
    Sq.SeqC Fence.wide n Try.prog 56 #[.pointer (some ⟨B, 0, none⟩)] gEnc (fun k => k = B ∨ T k) (fun ys => ys = gp L) (fun pre => pre <+: gp L) w := by
  intro lp J Jx W hW hJ hJx hY h0
  have hBW := hW.boxed (.inl rfl) hB
  have hcB := hBW.cell
  have hlB := hBW.lt
  obtain ⟨gf, lb, rfl⟩ : ∃ gf lb, sv = .func (.func gf) #[] lb := by obtain ⟨gf, lb, h, _⟩ := hT; exact ⟨gf, lb, h⟩
  have HTW := Lib.hid (hT.kept (hW.less fun k h _ => .inr h))
  have HY := Lib.hid (fun R pre x W1 h1 h2 h3 => (hY R pre x W1 h1 h2 h3))
  clear hY hT
  have hn1 : 1 ≤ n := by omega
  refine callsIn_of_wp_marks Try.func56 rfl trivial ?_ rfl
  simp only [Try.ntmps56, List.size_toArray, List.length_cons, List.length_nil, Nat.reduceAdd, Nat.reduceSub, Array.replicate_succ, Array.replicate_zero, List.push_toArray, List.append_toArray, List.nil_append, List.cons_append]
  gi_upto_region 2 with fail
  have hcB9 : (((W.alloc (.cells #[.func (.yield lp) #[] #[]] 110)).alloc (.cells #[.string ⟨#[]⟩] 9)).alloc (.cells #[.bool false] 4)).cell? ⟨B, 0, none⟩ = some (.func (.func gf) #[] lb) := (((hBW.alloc _).alloc _).alloc _).cell
  generalize hW9 : ((W.alloc (.cells #[.func (.yield lp) #[] #[]] 110)).alloc (.cells #[.string ⟨#[]⟩] 9)).alloc (.cells #[.bool false] 4) = W9 at hcB9 ⊢
  have HW9 := Lib.hid hW9
  have HS9 := Lib.hid (show W9.heap.size = W.heap.size + 3 by rw [← hW9]; simp)
  clear hW9
  gi_wp2_with (refine ⟨trivial, ?_⟩; gi_at_call 47; refine (through_in _ _ _ _).mono ?_; rintro e w' ⟨rfl, rfl⟩)
  rw [HS9.out, ← HW9.out]
  obtain ⟨W0, hW0⟩ : ∃ W0, (((W.alloc (.cells #[.func (.yield lp) #[] #[]] 110)).alloc (.cells #[.string ⟨#[]⟩] 9)).alloc (.cells #[.bool false] 4)).alloc (.cells #[.func (.func gf) #[] lb] 26) = W0 := ⟨_, rfl⟩
  have hsz : W0.heap.size = W.heap.size + 4 := by rw [← hW0]; simp
  have bY : Boxed W0 W.heap.size 110 (.func (.yield lp) #[] #[]) := by rw [← hW0]; exact (((Boxed.new W _ _).alloc _).alloc _).alloc _
  have bK : Boxed W0 (W.heap.size + 1) 9 (.string ⟨#[]⟩) := by
    rw [← hW0]; have := Boxed.new (W.alloc (.cells #[.func (.yield lp) #[] #[]] 110)) 9 (.string ⟨#[]⟩)
    rw [World.size_alloc] at this; exact (this.alloc _).alloc _
  have bG : Boxed W0 (W.heap.size + 2) 4 (.bool false) := by
    rw [← hW0]; have := Boxed.new ((W.alloc (.cells #[.func (.yield lp) #[] #[]] 110)).alloc (.cells #[.string ⟨#[]⟩] 9)) 4 (.bool false)
    rw [World.size_alloc, World.size_alloc] at this; exact this.alloc _
  have bS : Boxed W0 (W.heap.size + 3) 26 (.func (.func gf) #[] lb) := by
    rw [← hW0]; have := Boxed.new (((W.alloc (.cells #[.func (.yield lp) #[] #[]] 110)).alloc (.cells #[.string ⟨#[]⟩] 9)).alloc (.cells #[.bool false] 4)) 26 (.func (.func gf) #[] lb)
    rwa [World.size_alloc, World.size_alloc, World.size_alloc] at this
  obtain ⟨M, hM⟩ : ∃ M : Sq.Blocks, M = fun k => W.heap.size ≤ k ∧ k < W.heap.size + 4 := ⟨_, rfl⟩
  have hMm : ∀ k, M k ↔ W.heap.size ≤ k ∧ k < W.heap.size + 4 := fun k => by rw [hM]
  have hst0 : Sq.Kept (fun _ => True) W W0 := by rw [← hW0]; exact (((Sq.Kept.alloc _ _ _).trans (Sq.Kept.alloc _ _ _)).trans (Sq.Kept.alloc _ _ _)).trans (Sq.Kept.alloc _ _ _)
  have hJ0 : J (fun k => False ∨ M k) [] W0 := hJ _ _ _ _ _ h0 ⟨hst0.less fun _ _ _ => trivial, fun _ h => h.elim, fun k h => h.elim (fun h => h.elim) (fun h => .inr ((hMm k).1 h).1)⟩
  have hT0 := HTW.out.kept (hst0.less fun _ _ _ => trivial)
  have HTL := Lib.hid (show ∀ k, T k → k < W.heap.size from by obtain ⟨gf, lb, _, _, h, _⟩ := HTW.out; exact h)
  rw [hW0]
  clear hW0 hM HW9 hcB9
  refine Sq.wp_range rfl (by omega) (gf := 63) (lb := #[.pointer (some ⟨W.heap.size + 3, 0, none⟩)]) rfl trivial (enters_of Try.func63 (by kernel_rfl) rfl)
    (through1_seq (n - 1) (by omega) (.func (.func gf) #[] lb) L T hL (W.heap.size + 3) W0 bS hT0) (fun k hk => hk.elim (fun h => by omega) (fun h => by have := HTL.out k h; omega)) (fun _ => rfl)
    (fun R pre X => J (fun k => R k ∨ M k) (gpN L pre.length) X ∧ (Boxed X (W.heap.size + 1) 9 (.string (Cd.bs (kbK pre))) ∧ ¬ R (W.heap.size + 1)) ∧ (Boxed X (W.heap.size + 2) 4 (.bool (kbB pre)) ∧ ¬ R (W.heap.size + 2)) ∧ ((Boxed X W.heap.size 110 (.func (.yield lp) #[] #[]) ∧ ¬ R W.heap.size) ∧ W.heap.size + 4 ≤ X.heap.size))
    (fun c R pre X => c = .ret ∧ Jx (fun k => R k ∨ M k) (gpN L pre.length) X)
    (fun a' x R pre X => (J (fun k => R k ∨ M k) (gpN L pre.length) X ∧ (Boxed X (W.heap.size + 1) 9 (.string (Cd.bs (kbK pre))) ∧ ¬ R (W.heap.size + 1)) ∧ (Boxed X (W.heap.size + 2) 4 (.bool (kbB pre)) ∧ ¬ R (W.heap.size + 2)) ∧ ((Boxed X W.heap.size 110 (.func (.yield lp) #[] #[]) ∧ ¬ R W.heap.size) ∧ W.heap.size + 4 ≤ X.heap.size)) ∧
      ∃ Bf, (Ob.Obj X Bf 57 [.string (Cd.bs x.key), .int .u64 x.seq, .bool x.del, .string (Cd.bs x.val)] ∧ ¬ R Bf ∧ ¬ M Bf) ∧
      a' = { tmps := #[.func (.yield lp) #[] #[], .pointer (some ⟨B, 0, none⟩), .pointer (some ⟨W.heap.size, 0, none⟩), .pointer (some ⟨W.heap.size + 1, 0, none⟩), .pointer (some ⟨W.heap.size + 2, 0, none⟩), .pointer (some ⟨Bf, 0, none⟩), undef, .func (.func gf) #[] lb, .func (.func 63) #[] #[.pointer (some ⟨W.heap.size + 3, 0, none⟩)], .agg #[.string (Cd.bs x.key), .int .u64 x.seq, .bool x.del, .string (Cd.bs x.val)], undef, undef, undef, undef, undef, undef, undef, undef, undef, undef, undef, undef, undef, undef, undef, undef, undef], defers := [] })
    ((hJ.or M (fun (l : List Ver) => gpN L l.length)).and ((Sq.Steady.box _ _ _).and ((Sq.Steady.box _ _ _).and ((Sq.Steady.box _ _ _).and (steady_size _)))))
    (fun c => (Sq.Steady.pure _).and (hJx.or M (fun (l : List Ver) => gpN L l.length)))
    (fun a' x => ((hJ.or M (fun (l : List Ver) => gpN L l.length)).and ((Sq.Steady.box _ _ _).and ((Sq.Steady.box _ _ _).and ((Sq.Steady.box _ _ _).and (steady_size _))))).and (Sq.Steady.ex fun Bf => (show Sq.Steady (fun R (_ : List Ver) X => Ob.Obj X Bf 57 [.string (Cd.bs x.key), .int .u64 x.seq, .bool x.del, .string (Cd.bs x.val)] ∧ ¬ R Bf ∧ ¬ M Bf) from fun R R' s X X' h st => by
      obtain ⟨h1, h2⟩ := Sq.step_obj st h.1 h.2.1
      exact ⟨h1, h2, h.2.2⟩).and (fun _ _ _ _ _ hs _ => hs)))
    ⟨hJ0, ⟨bK, fun h => h⟩, ⟨bG, fun h => h⟩, ⟨bY, fun h => h⟩, by omega⟩ ?assign ?body ?done ?stop
  case assign =>
    rintro lr R pre x X hbd hsp ⟨hj, ⟨hk, hnk⟩, ⟨hb, hnb⟩, ⟨hy, hny⟩, hszX⟩
    gi_wp2
    refine ⟨Sq.Kept.alloc _ _ _, ⟨hJ _ _ _ _ _ hj (Sq.Step.alloc0 _ _ _), ⟨hk.alloc _, hnk⟩, ⟨hb.alloc _, hnb⟩, ⟨hy.alloc _, hny⟩, by simp; omega⟩, X.heap.size, ⟨Ob.Obj.new X _ _, fun h => by have := hbd _ h; omega, fun h => by have := (hMm _).1 h; omega⟩, ?_⟩
    first | rfl | trivial
  case body =>
    rintro lr R pre x a' X hRl hrec hbd hsp ⟨⟨hj, ⟨hk, hnk⟩, ⟨hb, hnb⟩, ⟨hy, hny⟩, hszX⟩, Bf, ⟨hf, hnf, hmf⟩, rfl⟩
    have hxi := hL x (hsp.subset (by simp))
    have HCL := Lib.hid (fun X => clone_any (Cd.bs x.key) X (by have := hxi; unfold VerIn at this; show x.key.length ≤ _; omega))
    have hng := newG_kb hsp
    have hpl := pre_len hsp
    have hpa := pre_at hsp
    have hgs := gpN_succ L pre.length
    rw [hpa, hng] at hgs
    have hks := kb_snoc pre x
    have HKS := Lib.hid hks
    have HLEN := Lib.hid (show (pre ++ [x]).length = pre.length + 1 by simp)
    have hdep : 1 ≤ n - 1 - 1 := by omega
    have hMy : M W.heap.size := (hMm _).2 (by omega)
    have hMk : M (W.heap.size + 1) := (hMm _).2 (by omega)
    have hMb : M (W.heap.size + 2) := (hMm _).2 (by omega)
    have hTk : ∀ k, W.heap.size ≤ k → ¬ T k := fun k h1 h => by have := HTL.out _ h; omega
    have hne1 : Bf ≠ W.heap.size + 1 := fun e => hmf (e ▸ hMk)
    have hne2 : Bf ≠ W.heap.size + 2 := fun e => hmf (e ▸ hMb)
    have HSP := Lib.hid (show gpN L pre.length ++ [(x, (!kbB pre || !(x.key == kbK pre)))] <+: gp L by rw [← hgs]; exact gpN_pre L _ (by omega))
    have HGS := Lib.hid hgs
    have HKK := Lib.hid (show ∀ (X3 : World) (X9 : World), Sq.Kept (fun k => R k ∨ (k = W.heap.size + 3 ∨ T k)) X X9 → Sq.Kept (fun k => (R k ∨ M k) ∨ (k = B ∨ T k)) X9 X3 → Sq.Kept (fun k => R k ∨ (k = W.heap.size + 3 ∨ T k)) X X3 from fun X3 X9 h1 h2 => h1.trans (h2.less fun k h _ => by
      rcases h with h | h | h
      · exact .inl (.inl h)
      · exact .inl (.inr (by subst h; exact (hMm _).2 (by omega)))
      · exact .inr (.inr h)))
    have HYY := Lib.hid (fun X9 (hst : Sq.Step (fun k => R k ∨ M k) (fun k => R k ∨ M k) X X9) => Sq.anyDepth rfl (n - 1 - 1 - 1) (HY.out (fun k => R k ∨ M k) (gpN L pre.length) (x, (!kbB pre || !(x.key == kbK pre))) X9 (hJ _ _ _ _ _ hj hst) (fun k h => h.elim (fun h => by have := hbd k h; have := hst.kept.size; omega) (fun h => by have := (hMm k).1 h; have := hst.kept.size; omega)) HSP.out))
    have ck := hk.cell
    have fk := hk.frozen
    have cb := hb.cell
    have fb := hb.frozen
    have cy := hy.cell
    have g0 := hf.cell 0
    have g1 := hf.cell 1
    have g2 := hf.cell 2
    have g3 := hf.cell 3
    simp at g0 g1 g2 g3
    have HK := Lib.hid hk
    have HB := Lib.hid hb
    have HYB := Lib.hid hy
    have HF := Lib.hid hf
    have HJ := Lib.hid hj
    have hltB := hf.lt
    clear hk hb hy hf hj hng hks hgs hsp hpa
    generalize kbK pre = K at *
    generalize kbB pre = G at *
    cases G with
    | false =>
      gi_upto_region 7 with (first
        | (refine ⟨trivial, ?_⟩; gi_at_call 40; refine (CallsIn.inRound lr (callsIn_wide.2 (HCL.out _))).mono ?_; rintro e w9 ⟨rfl, hb9⟩; have hkx : Boxed w9 (W.heap.size + 1) 9 (.string (Cd.bs K)) := Ob.Obj.below (W := X) HK.out hb9; have hbx : Boxed w9 (W.heap.size + 2) 4 (.bool false) := Ob.Obj.below (W := X) HB.out hb9; have hyx : Boxed w9 W.heap.size 110 (.func (.yield lp) #[] #[]) := Ob.Obj.below (W := X) HYB.out hb9; have hfx := HF.out.below hb9; have kc9 := Boxed.cell hkx; have kf9 := Boxed.frozen hkx; have bc9 := Boxed.cell hbx; have bf9 := Boxed.frozen hbx)
        | fail)
      have hstx : Sq.Step (fun k => R k ∨ M k) (fun k => R k ∨ M k) X ((w9.setCell ⟨W.heap.size + 1, 0, none⟩ (.string (Cd.bs x.key))).setCell ⟨W.heap.size + 2, 0, none⟩ (.bool true)) := ((Sq.Step.below hb9).trans (Sq.Step.setCell _ _ (.inr hMk))).trans (Sq.Step.setCell _ _ (.inr hMb))
      have hkept9 : Sq.Kept (fun k => R k ∨ (k = W.heap.size + 3 ∨ T k)) X ((w9.setCell ⟨W.heap.size + 1, 0, none⟩ (.string (Cd.bs x.key))).setCell ⟨W.heap.size + 2, 0, none⟩ (.bool true)) := ((Sq.Kept.of_below hb9).trans (Sq.Kept.setCell _ _ (fun h => h.elim hnk (fun h => h.elim (fun h => by simp at h) (fun h => hTk _ (by simp) h))))).trans (Sq.Kept.setCell _ _ (fun h => h.elim hnb (fun h => h.elim (fun h => by simp at h) (fun h => hTk _ (by simp) h))))
      have hyb9 : Boxed ((w9.setCell ⟨W.heap.size + 1, 0, none⟩ (.string (Cd.bs x.key))).setCell ⟨W.heap.size + 2, 0, none⟩ (.bool true)) W.heap.size 110 (.func (.yield lp) #[] #[]) := (hyx.other (by simp) _).other (by simp) _
      have hkb9 : Boxed ((w9.setCell ⟨W.heap.size + 1, 0, none⟩ (.string (Cd.bs x.key))).setCell ⟨W.heap.size + 2, 0, none⟩ (.bool true)) (W.heap.size + 1) 9 (.string (Cd.bs x.key)) := (hkx.set _).other (by simp) _
      have hbb9 : Boxed ((w9.setCell ⟨W.heap.size + 1, 0, none⟩ (.string (Cd.bs x.key))).setCell ⟨W.heap.size + 2, 0, none⟩ (.bool true)) (W.heap.size + 2) 4 (.bool true) := (Boxed.other hbx (by simp) _).set _
      have hfb9 := (hfx.other (p := ⟨W.heap.size + 1, 0, none⟩) hne1 (.string (Cd.bs x.key))).other (p := ⟨W.heap.size + 2, 0, none⟩) hne2 (.bool true)
      generalize (w9.setCell ⟨W.heap.size + 1, 0, none⟩ (.string (Cd.bs x.key))).setCell ⟨W.heap.size + 2, 0, none⟩ (.bool true) = X9 at hstx hkept9 hyb9 hkb9 hbb9 hfb9 ⊢
      have yc9 := hyb9.cell
      have v0 := hfb9.cell 0
      have v1 := hfb9.cell 1
      have v2 := hfb9.cell 2
      have v3 := hfb9.cell 3
      simp at v0 v1 v2 v3
      obtain ⟨fn, tmps, assign, body, hyy, hR⟩ := HYY.out X9 hstx
      clear hkx hbx hyx hfx kc9 kf9 bc9 bf9 hfb9 hstx
      have hg2 := HGS.out
      simp only [BEq.rfl, Bool.not_true, Bool.not_false, Bool.true_or, Bool.or_true, Bool.false_or] at hyy hR hg2
      have HG2 := Lib.hid hg2
      clear hg2
      have HR := Lib.hid hR
      clear hR
      simp only [gEnc] at hyy
      gi_wp2_with fail
      refine (Sq.round_in lr HR.out).mono ?_
      rintro e X3 (⟨rfl, hj3, hk3⟩ | ⟨rfl, hjx3, hk3⟩)
      · have hyb3 := hk3.boxed (.inl (.inr hMy)) hyb9
        have hkb3 := hk3.boxed (.inl (.inr hMk)) hkb9
        have hbb3 := hk3.boxed (.inl (.inr hMb)) hbb9
        gi_wp2_with fail
        refine ⟨HKK.out X3 _ hkept9 hk3, ?_, ⟨?_, hnk⟩, ⟨?_, hnb⟩, ⟨hyb3, hny⟩, by have := hk3.size; have := hkept9.size; omega⟩
        · show J _ (gpN L (pre ++ [x]).length) _
          rw [HLEN.out, HG2.out]; exact hj3
        · rw [HKS.out.1]; exact hkb3
        · rw [HKS.out.2]; exact hbb3
      · gi_wp2_with fail
        refine ⟨HKK.out X3 _ hkept9 hk3, rfl, ?_⟩
        show Jx _ (gpN L (pre ++ [x]).length) _
        rw [HLEN.out, HG2.out]; exact hjx3
    | true =>
      by_cases hxy : x.key = K
      · subst hxy
        obtain ⟨fn, tmps, assign, body, hyy, hR⟩ := HYY.out X (Sq.Step.refl _ _)
        have hyb9 := HYB.out
        have hkb9 := HK.out
        have hbb9 := HB.out
        have hkept9 := Sq.Kept.refl (fun k => R k ∨ (k = W.heap.size + 3 ∨ T k)) X
        have hg2 := HGS.out
        simp only [BEq.rfl, Bool.not_true, Bool.or_false] at hyy hR hg2
        have HG2 := Lib.hid hg2
        clear hg2
        have HR := Lib.hid hR
        clear hR
        simp only [gEnc] at hyy
        gi_wp2_with fail
        refine (Sq.round_in lr HR.out).mono ?_
        rintro e X3 (⟨rfl, hj3, hk3⟩ | ⟨rfl, hjx3, hk3⟩)
        · have hyb3 := hk3.boxed (.inl (.inr hMy)) hyb9
          have hkb3 := hk3.boxed (.inl (.inr hMk)) hkb9
          have hbb3 := hk3.boxed (.inl (.inr hMb)) hbb9
          gi_wp2_with fail
          refine ⟨HKK.out X3 _ hkept9 hk3, ?_, ⟨?_, hnk⟩, ⟨?_, hnb⟩, ⟨hyb3, hny⟩, by have := hk3.size; have := hkept9.size; omega⟩
          · show J _ (gpN L (pre ++ [x]).length) _
            rw [HLEN.out, HG2.out]; exact hj3
          · rw [HKS.out.1]; exact hkb3
          · rw [HKS.out.2]; exact hbb3
        · gi_wp2_with fail
          refine ⟨HKK.out X3 _ hkept9 hk3, rfl, ?_⟩
          show Jx _ (gpN L (pre ++ [x]).length) _
          rw [HLEN.out, HG2.out]; exact hjx3
      · have hne : (x.key == K) = false := by simpa using hxy
        gi_upto_region 7 with (first
          | (refine ⟨trivial, ?_⟩; gi_at_call 40; refine (CallsIn.inRound lr (callsIn_wide.2 (HCL.out _))).mono ?_; rintro e w9 ⟨rfl, hb9⟩; have hkx : Boxed w9 (W.heap.size + 1) 9 (.string (Cd.bs K)) := Ob.Obj.below (W := X) HK.out hb9; have hbx : Boxed w9 (W.heap.size + 2) 4 (.bool true) := Ob.Obj.below (W := X) HB.out hb9; have hyx : Boxed w9 W.heap.size 110 (.func (.yield lp) #[] #[]) := Ob.Obj.below (W := X) HYB.out hb9; have hfx := HF.out.below hb9; have kc9 := Boxed.cell hkx; have kf9 := Boxed.frozen hkx; have bc9 := Boxed.cell hbx; have bf9 := Boxed.frozen hbx)
          | fail)
        have hstx : Sq.Step (fun k => R k ∨ M k) (fun k => R k ∨ M k) X ((w9.setCell ⟨W.heap.size + 1, 0, none⟩ (.string (Cd.bs x.key))).setCell ⟨W.heap.size + 2, 0, none⟩ (.bool true)) := ((Sq.Step.below hb9).trans (Sq.Step.setCell _ _ (.inr hMk))).trans (Sq.Step.setCell _ _ (.inr hMb))
        have hkept9 : Sq.Kept (fun k => R k ∨ (k = W.heap.size + 3 ∨ T k)) X ((w9.setCell ⟨W.heap.size + 1, 0, none⟩ (.string (Cd.bs x.key))).setCell ⟨W.heap.size + 2, 0, none⟩ (.bool true)) := ((Sq.Kept.of_below hb9).trans (Sq.Kept.setCell _ _ (fun h => h.elim hnk (fun h => h.elim (fun h => by simp at h) (fun h => hTk _ (by simp) h))))).trans (Sq.Kept.setCell _ _ (fun h => h.elim hnb (fun h => h.elim (fun h => by simp at h) (fun h => hTk _ (by simp) h))))
        have hyb9 : Boxed ((w9.setCell ⟨W.heap.size + 1, 0, none⟩ (.string (Cd.bs x.key))).setCell ⟨W.heap.size + 2, 0, none⟩ (.bool true)) W.heap.size 110 (.func (.yield lp) #[] #[]) := (hyx.other (by simp) _).other (by simp) _
        have hkb9 : Boxed ((w9.setCell ⟨W.heap.size + 1, 0, none⟩ (.string (Cd.bs x.key))).setCell ⟨W.heap.size + 2, 0, none⟩ (.bool true)) (W.heap.size + 1) 9 (.string (Cd.bs x.key)) := (hkx.set _).other (by simp) _
        have hbb9 : Boxed ((w9.setCell ⟨W.heap.size + 1, 0, none⟩ (.string (Cd.bs x.key))).setCell ⟨W.heap.size + 2, 0, none⟩ (.bool true)) (W.heap.size + 2) 4 (.bool true) := (Boxed.other hbx (by simp) _).set _
        have hfb9 := (hfx.other (p := ⟨W.heap.size + 1, 0, none⟩) hne1 (.string (Cd.bs x.key))).other (p := ⟨W.heap.size + 2, 0, none⟩) hne2 (.bool true)
        generalize (w9.setCell ⟨W.heap.size + 1, 0, none⟩ (.string (Cd.bs x.key))).setCell ⟨W.heap.size + 2, 0, none⟩ (.bool true) = X9 at hstx hkept9 hyb9 hkb9 hbb9 hfb9 ⊢
        have yc9 := hyb9.cell
        have v0 := hfb9.cell 0
        have v1 := hfb9.cell 1
        have v2 := hfb9.cell 2
        have v3 := hfb9.cell 3
        simp at v0 v1 v2 v3
        obtain ⟨fn, tmps, assign, body, hyy, hR⟩ := HYY.out X9 hstx
        clear hkx hbx hyx hfx kc9 kf9 bc9 bf9 hfb9 hstx
        have hg2 := HGS.out
        simp only [hne, Bool.not_true, Bool.not_false, Bool.true_or, Bool.or_true, Bool.false_or] at hyy hR hg2
        have HG2 := Lib.hid hg2
        clear hg2
        have HR := Lib.hid hR
        clear hR
        simp only [gEnc] at hyy
        gi_wp2_with fail
        refine (Sq.round_in lr HR.out).mono ?_
        rintro e X3 (⟨rfl, hj3, hk3⟩ | ⟨rfl, hjx3, hk3⟩)
        · have hyb3 := hk3.boxed (.inl (.inr hMy)) hyb9
          have hkb3 := hk3.boxed (.inl (.inr hMk)) hkb9
          have hbb3 := hk3.boxed (.inl (.inr hMb)) hbb9
          gi_wp2_with fail
          refine ⟨HKK.out X3 _ hkept9 hk3, ?_, ⟨?_, hnk⟩, ⟨?_, hnb⟩, ⟨hyb3, hny⟩, by have := hk3.size; have := hkept9.size; omega⟩
          · show J _ (gpN L (pre ++ [x]).length) _
            rw [HLEN.out, HG2.out]; exact hj3
          · rw [HKS.out.1]; exact hkb3
          · rw [HKS.out.2]; exact hbb3
        · gi_wp2_with fail
          refine ⟨HKK.out X3 _ hkept9 hk3, rfl, ?_⟩
          show Jx _ (gpN L (pre ++ [x]).length) _
          rw [HLEN.out, HG2.out]; exact hjx3
  case done =>
    rintro D R ys X hD hRD rfl ⟨hj, _, _⟩ hdf
    gi_wp2
    refine ⟨by simp, .inl ⟨_, _, rfl, run_takeDeferred hdf, ?_⟩⟩
    exact ⟨_, results_none rfl _ _ _, ⟨_, rfl⟩, .inl ⟨_, _, rfl, hJ _ _ _ _ _ hj (Sq.Step.putObj _ _ (.inl hRD))⟩⟩
  case stop =>
    rintro D R c pre X hD hRD hsp ⟨rfl, hj⟩ hdf
    gi_wp2
    refine ⟨by simp, .inl ⟨_, _, rfl, run_takeDeferred hdf, ?_⟩⟩
    exact ⟨_, results_none rfl _ _ _, ⟨_, rfl⟩, .inr ⟨_, _, gpN_pre L _ (by have := hsp.length_le; omega), hJx _ _ _ _ _ hj (Sq.Step.putObj _ _ (.inl hRD))⟩⟩
end Mg
end Go.Proofs.Ytaohipgfnnclhaa

/-
  tapestrylaw09: what is told by a sequence of pairs (pairs).
-/
namespace Go.Proofs.Ytaohipgfnnclhaa
open Go.RowKit Go.Shelf
set_option linter.unusedSimpArgs false
set_option linter.unusedVariables false
namespace Mg
open Mt (Ver mayB lessB placeB VerIn verV)
open Vs (Vers At vcs)
open Tb (ver0 getD_at own_after lower_row)

attribute [local go_sem] Oper.semAt_some
theorem cell_two_new (w : World) (a b : Value) (t : TypeId) : ∀ j u, [a, b][j]? = some u → (w.alloc (.cells #[a, b] t)).cell? ((⟨w.heap.size, 0, none⟩ : Addr).add j) = some u := by
  intro j u hj
  match j, hj with
  | 0, hj => simp at hj; subst hj; simp [Addr.add]
  | 1, hj => simp at hj; subst hj; simp [Addr.add]
  | (j + 2), hj => simp at hj
abbrev pEnc9 (x : Pr) : Array Value := #[.agg #[.string (Cd.bs x.1), .string (Cd.bs x.2)]]
/-- A FUNCTION VALUE THAT TELLS THIS LIST, wherever the blocks of T stand as they do. -/
def TellsP (w : World) (v : Value) (L : List Pr) (T : Sq.Blocks) : Prop :=
  ∃ (gf : Nat) (lb : Array Value), v = .func (.func gf) #[] lb ∧ (∀ args w, (callFunc gf args).run Try.prog w = .ok (.enter gf args) w) ∧ (∀ k, T k → k < w.heap.size) ∧
    ∀ W, Sq.Kept T w W → Sq.SeqC Fence.wide 11 Try.prog gf lb pEnc9 T (fun ys => ys = L) (fun pre => pre <+: L) W
theorem TellsP.kept {w w' : World} {v : Value} {L : List Pr} {T : Sq.Blocks} (h : TellsP w v L T) (hk : Sq.Kept T w w') : TellsP w' v L T := by
  obtain ⟨gf, lb, h1, h2, h3, h4⟩ := h
  exact ⟨gf, lb, h1, h2, fun k hk' => Nat.lt_of_lt_of_le (h3 k hk') hk.size, fun W hW => h4 W (hk.trans hW)⟩
/-- what stands between the rounds of such a range -/
def frP (w : World) (most : Int) (R : Sq.Blocks) (pre : List Pr) (X : World) : Prop :=
  ∃ u, ((Boxed X (w.heap.size + 1) 47 u ∧ ¬ R (w.heap.size + 1)) ∧ (X.ownsRow (w.heap.size + 2) 89 2 u pre.length (pcs pre) ∧ ∀ g, u.ownBlock = some g → ¬ R g)) ∧
    (Boxed X w.heap.size 3 (.int .i64 most) ∧ ¬ R w.heap.size) ∧ (Sq.Kept (fun k => k < w.heap.size) w X ∧ ∀ k, k < w.heap.size → k < w.heap.size → ¬ R k)
theorem frP_steady (w : World) (most : Int) : Sq.Steady (frP w most) :=
  Sq.Steady.ex fun u => ((Sq.Steady.box _ _ _).and (Sq.Steady.row _ _ _ (fun _ => u) _ _)).and ((Sq.Steady.box _ _ _).and (Sq.Steady.kept _ _))
/-- one more is told -/
theorem frP_next {w X X1 X2 : World} {most : Int} {R : Sq.Blocks} {pre : List Pr} {x : Pr} {u : Value} {g cap : Nat}
    (hb : Boxed X (w.heap.size + 1) 47 u) (hnb : ¬ R (w.heap.size + 1)) (hrow : X.ownsRow (w.heap.size + 2) 89 2 u pre.length (pcs pre)) (hnr : ∀ g, u.ownBlock = some g → ¬ R g)
    (hbn : Boxed X w.heap.size 3 (.int .i64 most)) (hnn : ¬ R w.heap.size) (hk : Sq.Kept (fun k => k < w.heap.size) w X) (hnk : ∀ k, k < w.heap.size → k < w.heap.size → ¬ R k)
    (hbd : ∀ k, R k → k < X.heap.size) {T : Sq.Blocks} (hT : ∀ k, T k → k < w.heap.size) (hX1 : Sq.Kept (fun _ => True) X X1) (hs1 : X1.heap.size = X.heap.size + 1)
    (hown2 : X2.ownsRow (w.heap.size + 2) 89 2 (.slice (some ⟨g, 0, none⟩) (pre.length + 1) cap) (pre.length + 1) (pcs pre ++ [.string (Cd.bs x.1), .string (Cd.bs x.2)]))
    (hgrow : X1.grownBy X2 u.ownBlock) (hat : u.ownBlock = some g ∨ g = X.heap.size + 1) :
    Boxed X2 (w.heap.size + 1) 47 u ∧ Boxed X2 w.heap.size 3 (.int .i64 most) ∧
    frP w most R (pre ++ [x]) (X2.setCell ⟨w.heap.size + 1, 0, none⟩ (.slice (some ⟨g, 0, none⟩) (pre.length + 1) cap)) ∧
    Sq.Kept (fun k => R k ∨ T k) X (X2.setCell ⟨w.heap.size + 1, 0, none⟩ (.slice (some ⟨g, 0, none⟩) (pre.length + 1) cap)) := by
  have hge : ∀ r, u.ownBlock = some r → w.heap.size + 2 ≤ r := fun r hr => (Ob.row_lt hrow hr).1
  have hKg : Sq.Kept (fun k => ∀ r, u.ownBlock = some r → k ≠ r) X1 X2 := Sq.Kept.grown hgrow (fun r hr h => h r hr rfl)
  have hK2 : Sq.Kept (fun k => ∀ r, u.ownBlock = some r → k ≠ r) X X2 := (hX1.less (fun _ _ _ => trivial)).trans hKg
  have hb2 := hK2.boxed (fun r hr e => by have := hge r hr; omega) hb
  have hbn2 := hK2.boxed (fun r hr e => by have := hge r hr; omega) hbn
  have hk2 : Sq.Kept (fun k => k < w.heap.size) w X2 := hk.trans (hK2.less (fun k hk _ r hr e => by have := hge r hr; have : k < w.heap.size := hk; omega))
  refine ⟨hb2, hbn2, ?_, ?_⟩
  · refine ⟨_, ⟨⟨hb2.set _, hnb⟩, ?_, ?_⟩, ⟨hbn2.other (by simp) _, hnn⟩, hk2.trans (Sq.Kept.setCell _ _ (by simp)), hnk⟩
    · rw [pcs_snoc, List.length_append, List.length_singleton]
      refine Ob.row_other hown2 (fun e => ?_) _
      have := (Ob.row_lt hown2 e).1
      simp at this
    · intro g' hg'
      obtain rfl : g = g' := by simpa [Value.ownBlock] using hg'
      rcases hat with h | h
      · exact hnr g h
      · intro hr; have := hbd g hr; omega
  · refine (hK2.less (fun k hk hl r hr e => ?_)).trans (Sq.Kept.setCell _ _ (by
      rintro (h | h)
      · exact hnb h
      · have := hT _ h; simp at this; omega))
    subst e
    rcases hk with h | h
    · exact hnr k hr h
    · have := hge k hr; have := hT k h; omega
/-- what is told, left behind so many -/
def cutP (L : List Pr) (most : Int) : List Pr := if 0 < most then L.take most.toNat else L

theorem cutP_all {L : List Pr} {most : Int} (h : most ≤ 0 ∨ (L.length : Int) < most) : cutP L most = L := by
  unfold cutP
  rcases h with h | h
  · rw [if_neg (by omega)]
  · rw [if_pos (by omega), List.take_of_length_le (by omega)]
theorem cutP_some {L pre : List Pr} {most : Int} (h : pre <+: L) (h0 : 0 < most) (hm : (pre.length : Int) = most) : cutP L most = pre := by
  unfold cutP
  rw [if_pos h0, show most.toNat = pre.length by omega]
  exact (List.prefix_iff_eq_take.1 h).symm

set_option maxRecDepth 100000 in
set_option maxHeartbeats 4000000 in
theorem pairsL_any (sv : Value) (most : Int) (L : List Pr) (T : Sq.Blocks) (w : World) (hm : -9223372036854775808 ≤ most ∧ most ≤ 9223372036854775807) (hL : L.length ≤ 1099511627776) (hS : TellsP w sv L T) :
    Calls Try.prog 19 #[sv, .int .i64 most] w fun e w' => ∃ u, e = .returned u ∧ w'.ownsRow w.heap.size 89 2 u (cutP L most).length (pcs (cutP L most)) ∧ Below w.heap.size w w' := by
  obtain ⟨i0, hi, hz0, hz1, hz2⟩ := info_parts info_Pair
  obtain ⟨gf, lb, rfl, hent, hTl, hsq⟩ := hS
  refine (callsIn_wide (n := 12)).1 ?_
  refine callsIn_of_wp_marks Try.func19 rfl trivial ?_ rfl
  refine wpIn_wide.2 ?_
  simp only [Try.ntmps19, List.size_toArray, List.length_cons, List.length_nil, Nat.reduceAdd, Nat.reduceSub, Array.replicate_succ, Array.replicate_zero, List.push_toArray, List.append_toArray, List.nil_append, List.cons_append]
  go_wp2_with fail
  have hB1 : Below w.heap.size w ((w.alloc (.cells #[.int .i64 most] 3)).alloc (.cells #[.slice none 0 0] 47)) := ((Below.refl _ _).alloc (Nat.le_refl _) _).alloc (by simp) _
  have bN : Boxed ((w.alloc (.cells #[.int .i64 most] 3)).alloc (.cells #[.slice none 0 0] 47)) w.heap.size 3 (.int .i64 most) := (Boxed.new w _ _).alloc _
  have bL : Boxed ((w.alloc (.cells #[.int .i64 most] 3)).alloc (.cells #[.slice none 0 0] 47)) (w.heap.size + 1) 47 (.slice none 0 0) := by
    have := Boxed.new (w.alloc (.cells #[.int .i64 most] 3)) 47 (.slice none 0 0)
    rwa [World.size_alloc] at this
  have hsq1 := hsq _ ((Sq.Kept.alloc T w (.cells #[.int .i64 most] 3)).trans (Sq.Kept.alloc T _ (.cells #[.slice none 0 0] 47)))
  generalize (w.alloc (.cells #[.int .i64 most] 3)).alloc (.cells #[.slice none 0 0] 47) = w1 at *
  have hsz1 := bL.lt
  refine (wpIn_wide (n := 12)).1 ?_
  refine Sq.wp_range rfl (by omega) (gf := gf) (lb := lb) rfl trivial hent
    hsq1 (fun k hk => by have := hTl k hk; omega) (fun _ => rfl)
    (fun R pre X => frP w most R pre X ∧ (most ≤ 0 ∨ (pre.length : Int) < most))
    (fun c R pre X => frP w most R pre X ∧ (c = .exit 0 ∧ 0 < most ∧ (pre.length : Int) = most))
    (fun a' x R pre X => (frP w most R pre X ∧ (most ≤ 0 ∨ (pre.length : Int) < most)) ∧ ∃ Bf, (X.heap[Bf]? = some (.cells #[.string (Cd.bs x.1), .string (Cd.bs x.2)] 89 (0, 0)) ∧ ¬ R Bf) ∧
      a' = { tmps := #[.func (.func gf) #[] lb, .int .i64 most, undef, .pointer (some ⟨w.heap.size, 0, none⟩), .slice none 0 0, .pointer (some ⟨w.heap.size + 1, 0, none⟩), .pointer (some ⟨Bf, 0, none⟩), .func (.func gf) #[] lb, .agg #[.string (Cd.bs x.1), .string (Cd.bs x.2)], undef, undef, undef, undef, undef, undef, undef, undef, undef], defers := [] })
    ((frP_steady w most).and (Sq.Steady.pure _))
    (fun c => (frP_steady w most).and (Sq.Steady.pure _))
    (fun a' x => ((frP_steady w most).and (Sq.Steady.pure _)).and (Sq.Steady.ex fun Bf => (Sq.Steady.obj _ _).and (fun _ _ _ _ _ hs _ => hs)))
    ⟨⟨_, ⟨⟨bL, fun h => h⟩, World.ownsRow_nil _ _ _ _, fun _ h => by simp [Value.ownBlock] at h⟩, ⟨bN, fun h => h⟩, ⟨hB1.os, hB1.tape, hB1.output, hB1.size, fun k hk _ => hB1.block k hk⟩, fun _ _ _ h => h⟩, by
      by_cases h : 0 < most
      · exact .inr h
      · exact .inl (by omega)⟩ ?assign ?body ?done ?stop
  case assign =>
    rintro lr R pre x X hbd hsp ⟨hI, hm⟩
    gi_wp2
    refine ⟨Sq.Kept.alloc _ _ _, ⟨frP_steady w most _ _ _ _ _ hI (Sq.Step.alloc0 _ _ _), hm⟩, X.heap.size, ⟨World.alloc_heap_new X _, fun h => by have := hbd _ h; omega⟩, ?_⟩
    first | rfl | trivial
  case body =>
    rintro lr R pre x a' X hRl hrec hbd hsp ⟨⟨hI, hm⟩, Bf, ⟨hf, hnf⟩, rfl⟩
    obtain ⟨u, ⟨⟨hb, hnb⟩, hrow, hnr⟩, ⟨hbn, hnn⟩, hk, hnk⟩ := hI
    have hcf0 : X.cell? ⟨Bf, 0, none⟩ = some (.string (Cd.bs x.1)) := by simp [World.cell?, hf]
    have hcf1 : X.cell? ⟨Bf, 1, none⟩ = some (.string (Cd.bs x.2)) := by simp [World.cell?, hf]
    have hc0 := hb.cell
    have hfl : pre.length + 1 ≤ L.length := by have := hsp.length_le; simpa using this
    have hX2 : w.heap.size + 2 ≤ X.heap.size := by have := (hbd lr hRl).1; have := (hbd lr hRl).2; omega
    have hPL : Hid (pre.length + 1 = (pre ++ [x]).length) := Lib.hid (by simp)
    have HNX := Lib.hid (fun X1 X2 g cap (h1 : Sq.Kept (fun _ => True) X X1) (h2 : X1.heap.size = X.heap.size + 1) h3 h4 h5 => frP_next (x := x) (X1 := X1) (X2 := X2) (g := g) (cap := cap) hb hnb hrow hnr hbn hnn hk hnk (fun k hk => (hbd k hk).2) hTl h1 h2 h3 h4 h5)
    have hrow' := hrow.alloc (.cells #[.string (Cd.bs x.1), .string (Cd.bs x.2)] 89)
    have HM := Lib.hid hm
    clear hb hnb hrow hnr hbn hnn hk hnk hm hsp
    by_cases hlast : (pre.length : Int) + 1 = most
    · have hl1 : ((pre.length : Int) + 1 == most) = true := by simpa using hlast
      have HL := Lib.hid hlast
      clear hlast
      gi_wp2_with (refine wpListIn_append_lies _ rfl _ _ 47 rfl (w.heap.size + 2) 89 i0 (.agg #[.string ⟨#[]⟩, .string ⟨#[]⟩]) 2 32 Try.underlying47 hi hz0 hz1 hz2 rfl (by decide) _ _ _ rfl hrow' ⟨X.heap.size, 0, none⟩ 1 1 [_, _] rfl rfl (by simpa using cell_two_new X _ _ _) (by simp [Value.oneCell']) (by decide) (by unfold maxLen; omega) (by omega) (by simp; omega) (X.heap.size + 1) (by simp) ?_; intro g cap X2 hown2 hgrow hat hlt2; obtain ⟨z1, z2, z3, z4⟩ := HNX.out _ X2 g cap (Sq.Kept.alloc _ _ _) (by simp) hown2 hgrow hat; have Z3 := Lib.hid z3; have Z4 := Lib.hid z4; have q1 := z1.cell; have q2 := z1.frozen; have q3 := z1.lt; have q4 := z2.cell; clear z1 z2 z3 z4 hown2 hgrow hat)
      exact ⟨Z4.out, Z3.out, rfl, by have := HL.out; omega, by rw [← hPL.out]; have := HL.out; omega⟩
    · have hl1 : ((pre.length : Int) + 1 == most) = false := by simpa using hlast
      have HL := Lib.hid hlast
      clear hlast
      gi_wp2_with (refine wpListIn_append_lies _ rfl _ _ 47 rfl (w.heap.size + 2) 89 i0 (.agg #[.string ⟨#[]⟩, .string ⟨#[]⟩]) 2 32 Try.underlying47 hi hz0 hz1 hz2 rfl (by decide) _ _ _ rfl hrow' ⟨X.heap.size, 0, none⟩ 1 1 [_, _] rfl rfl (by simpa using cell_two_new X _ _ _) (by simp [Value.oneCell']) (by decide) (by unfold maxLen; omega) (by omega) (by simp; omega) (X.heap.size + 1) (by simp) ?_; intro g cap X2 hown2 hgrow hat hlt2; obtain ⟨z1, z2, z3, z4⟩ := HNX.out _ X2 g cap (Sq.Kept.alloc _ _ _) (by simp) hown2 hgrow hat; have Z3 := Lib.hid z3; have Z4 := Lib.hid z4; have q1 := z1.cell; have q2 := z1.frozen; have q3 := z1.lt; have q4 := z2.cell; clear z1 z2 z3 z4 hown2 hgrow hat)
      exact ⟨Z4.out, Z3.out, by rw [← hPL.out]; have := HL.out; rcases HM.out with h | h; exact .inl h; exact .inr (by omega)⟩
  case done =>
    rintro D R ys X hD hRD rfl ⟨hI, hm⟩ hdf
    obtain ⟨u, ⟨⟨hb, hnb⟩, hrow, hnr⟩, ⟨hbn, hnn⟩, hk, hnk⟩ := hI
    have HC := Lib.hid (cutP_all hm)
    have hc0 := hb.cell
    have HR := Lib.hid (Sq.row_kept (row_lower hrow (by omega : w.heap.size ≤ w.heap.size + 2)) (Sq.Kept.putObj (T := fun k => k ≠ D) X (l := D) (.deferred none) (by simp)) (fun g hg e => hnr g hg (e ▸ hRD)))
    have HB := Lib.hid ((hk.trans (Sq.Kept.putObj X (l := D) (.deferred none) (by omega))).below (fun _ h => h) (Nat.le_refl _))
    clear hb hrow hk hnk hbn hm hnr
    gi_wp2
    go_wp2_with fail
    refine ⟨by simp, .inl ⟨_, _, rfl, run_takeDeferred hdf, ?_⟩⟩
    exact ⟨_, results_tmp rfl _ _ _, u, rfl, by rw [HC.out]; exact HR.out, HB.out⟩
  case stop =>
    rintro D R c pre X hD hRD hsp ⟨hI, rfl, hm0, hm⟩ hdf
    obtain ⟨u, ⟨⟨hb, hnb⟩, hrow, hnr⟩, ⟨hbn, hnn⟩, hk, hnk⟩ := hI
    have HC := Lib.hid (cutP_some hsp hm0 hm)
    have hc0 := hb.cell
    have HR := Lib.hid (Sq.row_kept (row_lower hrow (by omega : w.heap.size ≤ w.heap.size + 2)) (Sq.Kept.putObj (T := fun k => k ≠ D) X (l := D) (.deferred none) (by simp)) (fun g hg e => hnr g hg (e ▸ hRD)))
    have HB := Lib.hid ((hk.trans (Sq.Kept.putObj X (l := D) (.deferred none) (by omega))).below (fun _ h => h) (Nat.le_refl _))
    clear hb hrow hk hnk hbn hm hnr
    gi_wp2
    go_wp2_with fail
    refine ⟨by simp, .inl ⟨_, _, rfl, run_takeDeferred hdf, ?_⟩⟩
    exact ⟨_, results_tmp rfl _ _ _, u, rfl, by rw [HC.out]; exact HR.out, HB.out⟩
end Mg
end Go.Proofs.Ytaohipgfnnclhaa

/-
  Chapter 9: what the program owes; the law MergePairs over it.
-/
namespace Go.Proofs.Ytaohipgfnnclhaa
open Go.RowKit
set_option linter.unusedSimpArgs false
set_option linter.unusedVariables false
namespace Mg
open Mt (Ver mayB lessB placeB VerIn verV)
open Vs (Vers At VersIn vcs)
open Tb (ver0 getD_at own_after lower_row)

/-- of a row: tells what is seen -/
def PairsOk : Prop := ∀ (sv : Value) (L : List Ver) (T : Sq.Blocks) (seq : Int) (lo hi : List UInt8) (w : World), Tells w sv L T → (∀ x ∈ L, VerIn x) → L.length ≤ 1048576 → (0 ≤ seq ∧ seq ≤ 18446744073709551615) → lo.length ≤ 1048576 → hi.length ≤ 1048576 →
    Calls Try.prog 17 #[sv, .int .u64 seq, .string (Cd.bs lo), .string (Cd.bs hi)] w fun e w' => ∃ u T', e = .returned u ∧ TellsP w' u (pairs L seq lo hi) T' ∧ Below w.heap.size w w'

theorem TellsP.below {w w' : World} {v : Value} {L : List Pr} {T : Sq.Blocks} (h : TellsP w v L T) (hb : Below w.heap.size w w') : TellsP w' v L T := TellsP.kept h (Sq.Kept.of_below hb)
theorem Tells.below {w w' : World} {v : Value} {L : List Ver} {T : Sq.Blocks} (h : Tells w v L T) (hb : Below w.heap.size w w') : Tells w' v L T := Tells.kept h (Sq.Kept.of_below hb)
theorem Prs.take {B : Nat} {W : World} {a : Option Addr} {cap : Nat} {L : List Pr} (h : Prs B W (.slice a L.length cap) L) (n : Nat) (hn : n ≤ L.length) : Prs B W (.slice a n cap) (L.take n) := by
  obtain ⟨a', cap', b, off, h1, h2, h3⟩ := h
  injection h1 with e1 e2 e3
  subst e1 e3
  have hl : (L.take n).length = n := by simp; omega
  exact ⟨_, _, b, off, by rw [hl], fun h => h2 (by omega), fun j hj => by rw [List.getElem_take]; exact h3 j (by omega)⟩
theorem pairs_len (L : List Ver) (seq : Int) (lo hi : List UInt8) : (pairs L seq lo hi).length ≤ L.length := by
  unfold pairs
  have h1 := prN_len seq lo (below L hi) (below L hi).length
  have h2 : (below L hi).length ≤ L.length := by
    unfold below
    exact (List.takeWhile_sublist _).length_le
  omega
def PrPost (wA : World) (P : List Pr) (r : Value) (wx : World) : Prop := (∃ T, TellsP wx r P T) ∧ Below wA.heap.size wA wx

set_option maxRecDepth 100000 in
set_option maxHeartbeats 4000000 in
theorem mergePairs_walk (PP : PairsOk) (lv : Value) (L : List Ver) (seq : Int) (lo hi : List UInt8) (most : Int) (w : World) (hV : VersIn w lv L) (hs0 : 0 ≤ seq) (hs1 : seq ≤ 18446744073709551615) (hlo : lo.length ≤ 1048576) (hhi : hi.length ≤ 1048576) (hm0 : -9223372036854775808 ≤ most) (hm1 : most ≤ 9223372036854775807) :
    Calls Try.prog 5 #[.agg #[lv, .int .u64 seq, .string (Cd.bs lo), .string (Cd.bs hi), .int .i64 most]] w fun e w' => e = .returned (.bool true) ∧ Below w.heap.size w w' := by
  have hmany := hV.many
  have HVV := Lib.hid hV
  obtain ⟨la, lcap, lb, loff, hlv, _⟩ := hV.vers
  subst hlv
  obtain ⟨wA, hwA⟩ : ∃ wA, w.alloc (.cells #[.slice la L.length lcap, .int .u64 seq, .string (Cd.bs lo), .string (Cd.bs hi), .int .i64 most] 43) = wA := ⟨_, rfl⟩
  have bA : Below w.heap.size w wA := by rw [← hwA]; exact (Below.refl _ _).alloc (Nat.le_refl _) _
  have oA : Ob.Obj wA w.heap.size 43 [.slice la L.length lcap, .int .u64 seq, .string (Cd.bs lo), .string (Cd.bs hi), .int .i64 most] := by rw [← hwA]; exact Ob.Obj.new w _ _
  have hVA : ∀ W, Below w.heap.size w W → Vers W.heap.size W (.slice la L.length lcap) L := fun W h => HVV.out.vers.grow h h.size
  have HROW := Lib.hid (fun W (h : Below w.heap.size w W) => row_any (.slice la L.length lcap) L W (hVA W h) (by omega))
  have HPP := Lib.hid (fun sv T W (h : Tells W sv L T) => PP sv L T seq lo hi W h HVV.out.each hmany ⟨hs0, hs1⟩ hlo hhi)
  have HPR := Lib.hid (fun W (h : Below w.heap.size w W) => pairsR9_any (.slice la L.length lcap) seq lo hi L W (hVA W h) HVV.out.each hmany)
  have hpl := pairs_len L seq lo hi
  generalize pairs L seq lo hi = P at *
  have HLI := Lib.hid (fun sv T W most' (hm : -9223372036854775808 ≤ most' ∧ most' ≤ 9223372036854775807) (h : TellsP W sv P T) => pairsL_any sv most' P T W hm (by omega) h)
  have HSM := Lib.hid (fun u v L' W (h1 : Prs W.heap.size W u L') (h2 : Prs W.heap.size W v L') (h3 : L'.length ≤ 4611686018427387904) => samePairs_eq u v L' W h1 h2 h3)
  have a0 := oA.cell 0
  have a1 := oA.cell 1
  have a2 := oA.cell 2
  have a3 := oA.cell 3
  have a4 := oA.cell 4
  simp at a0 a1 a2 a3 a4
  have hlA := oA.lt
  have HWA := Lib.hid hwA
  clear hwA PP hVA
  go_enter Try.func5, Try.ntmps5
  go_wp2_with fail
  rw [HWA.out]
  go_cut [3] from 9 to 18 (fun r wx => PrPost wA P r wx)
  case first =>
    have HS0 := Lib.hid (show Below wA.heap.size wA wA ∧ wA.cell? ⟨w.heap.size, 0, none⟩ = some (.slice la L.length lcap) ∧ wA.cell? ⟨w.heap.size, 1, none⟩ = some (.int .u64 seq) ∧ wA.cell? ⟨w.heap.size, 2, none⟩ = some (.string (Cd.bs lo)) ∧ wA.cell? ⟨w.heap.size, 3, none⟩ = some (.string (Cd.bs hi)) from ⟨Below.refl _ _, a0, a1, a2, a3⟩)
    have HS1 := Lib.hid (show Below wA.heap.size wA wA.drew ∧ wA.drew.cell? ⟨w.heap.size, 0, none⟩ = some (.slice la L.length lcap) ∧ wA.drew.cell? ⟨w.heap.size, 1, none⟩ = some (.int .u64 seq) ∧ wA.drew.cell? ⟨w.heap.size, 2, none⟩ = some (.string (Cd.bs lo)) ∧ wA.drew.cell? ⟨w.heap.size, 3, none⟩ = some (.string (Cd.bs hi)) from ⟨(Below.refl _ _).drew, a0, a1, a2, a3⟩)
    have NX := Lib.hid (fun W W' (h : Below wA.heap.size wA W ∧ W.cell? ⟨w.heap.size, 0, none⟩ = some (.slice la L.length lcap) ∧ W.cell? ⟨w.heap.size, 1, none⟩ = some (.int .u64 seq) ∧ W.cell? ⟨w.heap.size, 2, none⟩ = some (.string (Cd.bs lo)) ∧ W.cell? ⟨w.heap.size, 3, none⟩ = some (.string (Cd.bs hi))) (hb : Below W.heap.size W W') => show Below wA.heap.size wA W' ∧ W'.cell? ⟨w.heap.size, 0, none⟩ = some (.slice la L.length lcap) ∧ W'.cell? ⟨w.heap.size, 1, none⟩ = some (.int .u64 seq) ∧ W'.cell? ⟨w.heap.size, 2, none⟩ = some (.string (Cd.bs lo)) ∧ W'.cell? ⟨w.heap.size, 3, none⟩ = some (.string (Cd.bs hi)) from
      have h7 : Below wA.heap.size wA W' := h.1.trans (hb.mono h.1.size)
      ⟨h7, (h7.cell (p := ⟨w.heap.size, 0, none⟩) hlA).trans a0, (h7.cell (p := ⟨w.heap.size, 1, none⟩) hlA).trans a1, (h7.cell (p := ⟨w.heap.size, 2, none⟩) hlA).trans a2, (h7.cell (p := ⟨w.heap.size, 3, none⟩) hlA).trans a3⟩)
    have HRW := Lib.hid (fun W (h : Below wA.heap.size wA W ∧ W.cell? ⟨w.heap.size, 0, none⟩ = some (.slice la L.length lcap) ∧ W.cell? ⟨w.heap.size, 1, none⟩ = some (.int .u64 seq) ∧ W.cell? ⟨w.heap.size, 2, none⟩ = some (.string (Cd.bs lo)) ∧ W.cell? ⟨w.heap.size, 3, none⟩ = some (.string (Cd.bs hi))) => HROW.out W (bA.trans (h.1.mono bA.size)))
    clear a0 a1 a2 a3
    go_region_held3 (fun W => Below wA.heap.size wA W ∧ W.cell? ⟨w.heap.size, 0, none⟩ = some (.slice la L.length lcap) ∧ W.cell? ⟨w.heap.size, 1, none⟩ = some (.int .u64 seq) ∧ W.cell? ⟨w.heap.size, 2, none⟩ = some (.string (Cd.bs lo)) ∧ W.cell? ⟨w.heap.size, 3, none⟩ = some (.string (Cd.bs hi)))
      (first | exact HS0.out | exact HS1.out | exact NX.out _ _ (by assumption) hb9)
      (first
      | (go_at_call 15; (with_reducible refine (HRW.out _ (by assumption)).mono ?_); rintro e w9 ⟨u9, T9, rfl, ht9, hb9⟩)
      | (go_at_call 17; (with_reducible refine (HPP.out _ _ _ ht9).mono ?_); rintro e w9 ⟨u8, T8, rfl, ht8, hb9⟩))
    go_wp2_with fail
    go_meet
    exact ⟨⟨_, ht8⟩, (show Below wA.heap.size wA _ ∧ _ from by assumption).1⟩
  case rest =>
    obtain ⟨⟨T, hT⟩, hbd⟩ := hcut
    have hBc := bA.trans (hbd.mono bA.size)
    have a4' := (hbd.cell (p := ⟨w.heap.size, 4, none⟩) hlA).trans a4
    have a0' := (hbd.cell (p := ⟨w.heap.size, 0, none⟩) hlA).trans a0
    have a1' := (hbd.cell (p := ⟨w.heap.size, 1, none⟩) hlA).trans a1
    have a2' := (hbd.cell (p := ⟨w.heap.size, 2, none⟩) hlA).trans a2
    have a3' := (hbd.cell (p := ⟨w.heap.size, 3, none⟩) hlA).trans a3
    have hlc : w.heap.size < wc.heap.size := by have := hbd.size; omega
    clear a0 a1 a2 a3 a4
    by_cases hm : 0 < most
    · obtain ⟨n, hnd⟩ : ∃ n : Nat, min (P.length : Int) most = (n : Int) := ⟨(min (P.length : Int) most).toNat, by omega⟩
      have hn : n ≤ P.length := by omega
      have HCU := Lib.hid (show cutP P most = P.take n by
        unfold cutP
        rw [if_pos hm]
        by_cases h : (P.length : Int) ≤ most
        · rw [List.take_of_length_le (by omega), List.take_of_length_le (by omega)]
        · rw [show most.toNat = n by omega])
      go_wp2_with (first
        | (go_at_call 18; (with_reducible refine (HPR.out _ hBc).mono ?_); rintro e w4 ⟨u4, rfl, hown4, hb4⟩; obtain ⟨pa, pcap, rfl, hpg⟩ := Sq.row_cases hown4; have hB4 := hBc.trans (hb4.mono hBc.size); have hT4 := hT.below hb4; have hc4 := (hb4.cell (p := ⟨w.heap.size, 4, none⟩) hlc).trans a4'; have hl4 : w.heap.size < w4.heap.size := by have := hb4.size; omega)
        | (go_at_call 19; (with_reducible refine (HLI.out _ _ _ most ⟨hm0, hm1⟩ hT4).mono ?_); rintro e w5 ⟨u5, rfl, hown5, hb5⟩; have hB5 := hB4.trans (hb5.mono hB4.size); have hT5 := hT4.below hb5; have hc5 := (hb5.cell (p := ⟨w.heap.size, 4, none⟩) hl4).trans hc4; have HP5 := Lib.hid (prs_of_own (own_after hown4 hb5)); have HQ5 := Lib.hid (prs_of_own hown5); have hpc := row_cap hown4)
        | (go_at_call 20; (with_reducible refine (HSM.out _ _ (P.take n) _ (by rw [← HCU.out]; exact HQ5.out) (HP5.out.take n hn) (by rw [List.length_take]; omega)).mono ?_); rintro e w6 ⟨rfl, hb6⟩; have hB6 := hB5.trans (hb6.mono hB5.size); have hT6 := hT5.below hb6; have HP6 := Lib.hid (HP5.out.grow hb6 hb6.size))
        | (go_at_call 19; (with_reducible refine (HLI.out _ _ _ 0 (by omega) hT6).mono ?_); rintro e w7 ⟨u7, rfl, hown7, hb7⟩; have hB7 := hB6.trans (hb7.mono hB6.size); have HP7 := Lib.hid (HP6.out.grow hb7 hb7.size); have HQ7 := Lib.hid (prs_of_own hown7))
        | (go_at_call 20; (with_reducible refine (HSM.out _ _ P _ HQ7.out HP7.out (by omega)).mono ?_); rintro e w8 ⟨rfl, hb8⟩; have hB8 := hB7.trans (hb8.mono hB7.size)))
      first
        | (go_ret; exact ⟨rfl, hB8⟩)
        | exact ⟨rfl, hB8⟩
        | (simp only [bodyPost]; trace_state; exact ⟨rfl, hB8⟩)
    · have HCU := Lib.hid (show cutP P most = P by unfold cutP; rw [if_neg hm])
      go_wp2_with (first
        | (go_at_call 18; (with_reducible refine (HPR.out _ hBc).mono ?_); rintro e w4 ⟨u4, rfl, hown4, hb4⟩; obtain ⟨pa, pcap, rfl, hpg⟩ := Sq.row_cases hown4; have hB4 := hBc.trans (hb4.mono hBc.size); have hT4 := hT.below hb4; have hc4 := (hb4.cell (p := ⟨w.heap.size, 4, none⟩) hlc).trans a4'; have hl4 : w.heap.size < w4.heap.size := by have := hb4.size; omega)
        | (go_at_call 19; (with_reducible refine (HLI.out _ _ _ most ⟨hm0, hm1⟩ hT4).mono ?_); rintro e w5 ⟨u5, rfl, hown5, hb5⟩; have hB5 := hB4.trans (hb5.mono hB4.size); have hT5 := hT4.below hb5; have hc5 := (hb5.cell (p := ⟨w.heap.size, 4, none⟩) hl4).trans hc4; have HP5 := Lib.hid (prs_of_own (own_after hown4 hb5)); have HQ5 := Lib.hid (prs_of_own hown5); have hpc := row_cap hown4)
        | (go_at_call 20; (with_reducible refine (HSM.out _ _ P _ (by have h := HQ5.out; rw [HCU.out] at h; exact h) HP5.out (by omega)).mono ?_); rintro e w6 ⟨rfl, hb6⟩; have hB6 := hB5.trans (hb6.mono hB5.size); have hT6 := hT5.below hb6; have HP6 := Lib.hid (HP5.out.grow hb6 hb6.size))
        | (go_at_call 19; (with_reducible refine (HLI.out _ _ _ 0 (by omega) hT6).mono ?_); rintro e w7 ⟨u7, rfl, hown7, hb7⟩; have hB7 := hB6.trans (hb7.mono hB6.size); have HP7 := Lib.hid (HP6.out.grow hb7 hb7.size); have HQ7 := Lib.hid (prs_of_own hown7))
        | (go_at_call 20; (with_reducible refine (HSM.out _ _ P _ HQ7.out HP7.out (by omega)).mono ?_); rintro e w8 ⟨rfl, hb8⟩; have hB8 := hB7.trans (hb8.mono hB7.size)))
      first
        | (go_ret; exact ⟨rfl, hB8⟩)
        | exact ⟨rfl, hB8⟩
        | (simp only [bodyPost]; trace_state; exact ⟨rfl, hB8⟩)
end Mg
end Go.Proofs.Ytaohipgfnnclhaa

/-
  The program's merge: Pairs.
-/
namespace Go.Proofs.Ytaohipgfnnclhaa
open Go.RowKit Go.Shelf
set_option linter.unusedSimpArgs false
set_option linter.unusedVariables false
namespace Mg
open Mt (Ver mayB lessB placeB VerIn verV)
open Vs (Vers At vcs)
open Tb (ver0 getD_at own_after lower_row)
attribute [local go_sem] Oper.semAt_some

theorem gp_at {L : List Ver} {pre : List (Ver × Bool)} {x : Ver × Bool} (h : pre ++ [x] <+: gp L) : pre.length < L.length ∧ x.1 = L.getD pre.length ver0 ∧ x.2 = newG L pre.length ∧ L.take pre.length ++ [x.1] <+: L ∧ pre <+: gp L ∧ x.1 ∈ L := by
  obtain ⟨h1, h2⟩ := gpN_of_pre h
  simp at h2
  rw [List.length_append, List.length_singleton, gpN_succ] at h1
  obtain ⟨h3, h4⟩ := List.append_inj' h1 rfl
  simp at h4
  have hlt : pre.length < L.length := by omega
  have hx : x.1 = L.getD pre.length ver0 := by rw [h4]; simp [List.getD_eq_getElem?_getD]
  refine ⟨hlt, hx, by rw [h4], ?_, (List.prefix_append _ _).trans h, ?_⟩
  · rw [hx, getD_at hlt, ← List.take_succ_eq_append_getElem hlt]; exact List.take_prefix _ _
  · rw [hx, getD_at hlt]; exact List.getElem_mem _
/-- one version more -/
theorem pr_next (seq : Int) (lo : List UInt8) (L : List Ver) (n : Nat) (v : Ver) (hv : v = L.getD n ver0) :
    prN seq lo L (n + 1) = if ((!newG L n && (prN seq lo L n).2) || (Op.bytesLess v.key lo || decide (seq < v.seq))) = true then ((prN seq lo L n).1, (!newG L n && (prN seq lo L n).2)) else ((prN seq lo L n).1 ++ (if v.del = true then [] else [(v.key, v.val)]), true) := by
  rw [prN_succ]
  unfold prStep
  subst hv
  congr 1
  simp only [Bool.or_eq_true, Bool.and_eq_true, Bool.not_eq_true', decide_eq_true_eq]

/-- what Pairs closes over -/
structure PrC (W : World) (bs bh bl bq : Nat) (sv : Value) (hi lo : List UInt8) (seq : Int) : Prop where
  s : Boxed W bs 26 sv
  h : Boxed W bh 9 (.string (Cd.bs hi))
  l : Boxed W bl 9 (.string (Cd.bs lo))
  q : Boxed W bq 39 (.int .u64 seq)
abbrev prT (bs bh bl bq : Nat) (T : Sq.Blocks) : Sq.Blocks := fun k => (k = bs ∨ k = bh ∨ k = bl ∨ k = bq) ∨ T k
theorem PrC.kept {W W' : World} {bs bh bl bq : Nat} {sv : Value} {hi lo : List UInt8} {seq : Int} {T : Sq.Blocks} (h : PrC W bs bh bl bq sv hi lo seq) (hk : Sq.Kept (prT bs bh bl bq T) W W') : PrC W' bs bh bl bq sv hi lo seq :=
  ⟨hk.boxed (.inl (.inl rfl)) h.s, hk.boxed (.inl (.inr (.inl rfl))) h.h, hk.boxed (.inl (.inr (.inr (.inl rfl)))) h.l, hk.boxed (.inl (.inr (.inr (.inr rfl)))) h.q⟩

/-- between the rounds -/
structure PrI (L : List Ver) (seq : Int) (lo hi : List UInt8) (J : Sq.Blocks → List Pr → World → Prop) (M : Sq.Blocks) (W : World) (lp bh bl bq : Nat) (R : Sq.Blocks) (pre : List (Ver × Bool)) (X : World) : Prop where
  j : J (fun k => R k ∨ M k) (prN seq lo L pre.length).1 X
  f : Boxed X (W.heap.size + 1) 4 (.bool (prN seq lo L pre.length).2) ∧ ¬ R (W.heap.size + 1)
  y : Boxed X W.heap.size 87 (.func (.yield lp) #[] #[]) ∧ ¬ R W.heap.size
  h : Boxed X bh 9 (.string (Cd.bs hi)) ∧ ¬ R bh
  l : Boxed X bl 9 (.string (Cd.bs lo)) ∧ ¬ R bl
  q : Boxed X bq 39 (.int .u64 seq) ∧ ¬ R bq
  size : W.heap.size + 3 ≤ X.heap.size
  all : ∀ v ∈ L.take pre.length, (hi.isEmpty || Op.bytesLess v.key hi) = true
theorem PrI.steady {L : List Ver} {seq : Int} {lo hi : List UInt8} {J : Sq.Blocks → List Pr → World → Prop} {M : Sq.Blocks} {W : World} {lp bh bl bq : Nat} (hJ : Sq.Steady J) : Sq.Steady (PrI L seq lo hi J M W lp bh bl bq) :=
  fun R R' s X X' h st => ⟨hJ _ _ _ _ _ h.j (st.or M), Sq.step_obj st h.f.1 h.f.2, Sq.step_obj st h.y.1 h.y.2, Sq.step_obj st h.h.1 h.h.2, Sq.step_obj st h.l.1 h.l.2, Sq.step_obj st h.q.1 h.q.2, Nat.le_trans h.size st.kept.size, h.all⟩

set_option maxRecDepth 100000 in
set_option maxHeartbeats 4000000 in
/-- PAIRS TELLS WHAT IS SEEN. -/
theorem pairs1_seq (n : Nat) (hn : 11 ≤ n) (sv : Value) (L : List Ver) (T : Sq.Blocks) (hL : ∀ x ∈ L, VerIn x) (seq : Int) (hq : 0 ≤ seq ∧ seq ≤ 18446744073709551615) (lo hi : List UInt8) (bs bh bl bq : Nat) (w : World) (hC : PrC w bs bh bl bq sv hi lo seq) (hT : Tells w sv L T) :
    Sq.SeqC Fence.wide n Try.prog 41 #[.pointer (some ⟨bs, 0, none⟩), .pointer (some ⟨bh, 0, none⟩), .pointer (some ⟨bl, 0, none⟩), .pointer (some ⟨bq, 0, none⟩)] pEnc9 (prT bs bh bl bq T) (fun ys => ys = pairs L seq lo hi) (fun pre => pre <+: pairs L seq lo hi) w := by
  intro lp J Jx W hW hJ hJx hY h0
  have hCW := hC.kept hW
  obtain ⟨gf, lb, rfl⟩ : ∃ gf lb, sv = .func (.func gf) #[] lb := by obtain ⟨gf, lb, h, _⟩ := hT; exact ⟨gf, lb, h⟩
  have HTW := Lib.hid (hT.kept (hW.less fun k h _ => .inr h))
  have HY := Lib.hid (fun R pre x W1 h1 h2 h3 => (hY R pre x W1 h1 h2 h3))
  clear hY hT
  have hn1 : 1 ≤ n := by omega
  have l1 := hCW.h.lt
  have l2 := hCW.l.lt
  have l3 := hCW.q.lt
  have l4 := hCW.s.lt
  refine callsIn_of_wp_marks Try.func41 rfl trivial ?_ rfl
  simp only [Try.ntmps41, List.size_toArray, List.length_cons, List.length_nil, Nat.reduceAdd, Nat.reduceSub, Array.replicate_succ, Array.replicate_zero, List.push_toArray, List.append_toArray, List.nil_append, List.cons_append]
  gi_upto_region 2 with fail
  obtain ⟨W9, hW9⟩ : ∃ W9, (W.alloc (.cells #[.func (.yield lp) #[] #[]] 87)).alloc (.cells #[.bool false] 4) = W9 := ⟨_, rfl⟩
  have hcB9 : W9.cell? ⟨bs, 0, none⟩ = some (.func (.func gf) #[] lb) := by rw [← hW9]; exact ((hCW.s.alloc _).alloc _).cell
  have bY : Boxed W9 W.heap.size 87 (.func (.yield lp) #[] #[]) := by rw [← hW9]; exact (Boxed.new W _ _).alloc _
  have bA : Boxed W9 (W.heap.size + 1) 4 (.bool false) := by
    rw [← hW9]; have := Boxed.new (W.alloc (.cells #[.func (.yield lp) #[] #[]] 87)) 4 (.bool false)
    rwa [World.size_alloc] at this
  have HS9 := Lib.hid (show W9.heap.size = W.heap.size + 2 by rw [← hW9]; simp)
  have hst9 : Sq.Kept (fun _ => True) W W9 := by rw [← hW9]; exact (Sq.Kept.alloc _ _ _).trans (Sq.Kept.alloc _ _ _)
  rw [hW9]
  clear hW9
  have HST9 := Lib.hid hst9
  have HBY := Lib.hid bY
  have HBA := Lib.hid bA
  clear hst9 bY bA
  gi_wp2_with (refine ⟨trivial, ?_⟩; gi_at_call 36; refine (groups_in _ _ _ _).mono ?_; rintro e w' ⟨rfl, rfl⟩)
  rw [HS9.out]
  obtain ⟨W0, hW0⟩ : ∃ W0, W9.alloc (.cells #[.func (.func gf) #[] lb] 26) = W0 := ⟨_, rfl⟩
  have hsz : W0.heap.size = W.heap.size + 3 := by rw [← hW0, World.size_alloc, HS9.out]
  have bY : Boxed W0 W.heap.size 87 (.func (.yield lp) #[] #[]) := by rw [← hW0]; exact HBY.out.alloc _
  have bA : Boxed W0 (W.heap.size + 1) 4 (.bool false) := by rw [← hW0]; exact HBA.out.alloc _
  have bS : Boxed W0 (W.heap.size + 2) 26 (.func (.func gf) #[] lb) := by rw [← hW0, ← HS9.out]; exact Boxed.new W9 _ _
  obtain ⟨M, hM⟩ : ∃ M : Sq.Blocks, M = fun k => W.heap.size ≤ k ∧ k < W.heap.size + 3 := ⟨_, rfl⟩
  have hMm : ∀ k, M k ↔ W.heap.size ≤ k ∧ k < W.heap.size + 3 := fun k => by rw [hM]
  have hst0 : Sq.Kept (fun _ => True) W W0 := by rw [← hW0]; exact HST9.out.trans (Sq.Kept.alloc _ _ _)
  have hJ0 : J (fun k => False ∨ M k) [] W0 := hJ _ _ _ _ _ h0 ⟨hst0.less fun _ _ _ => trivial, fun _ h => h.elim, fun k h => h.elim (fun h => h.elim) (fun h => .inr ((hMm k).1 h).1)⟩
  have hT0 := HTW.out.kept (hst0.less fun _ _ _ => trivial)
  have HTL := Lib.hid (show ∀ k, T k → k < W.heap.size from by obtain ⟨gf, lb, _, _, h, _⟩ := HTW.out; exact h)
  have bH : Boxed W0 bh 9 (.string (Cd.bs hi)) := hst0.boxed trivial hCW.h
  have bL : Boxed W0 bl 9 (.string (Cd.bs lo)) := hst0.boxed trivial hCW.l
  have bQ : Boxed W0 bq 39 (.int .u64 seq) := hst0.boxed trivial hCW.q
  rw [hW0]
  clear hW0 hM HS9 hcB9 HST9 HBY HBA
  refine Sq.wp_range rfl (by omega) (gf := 56) (lb := #[.pointer (some ⟨W.heap.size + 2, 0, none⟩)]) rfl trivial (enters_of Try.func56 (by kernel_rfl) rfl)
    (groups1_seq (n - 1) (by omega) (.func (.func gf) #[] lb) L T hL (W.heap.size + 2) W0 bS hT0) (fun k hk => hk.elim (fun h => by omega) (fun h => by have := HTL.out k h; omega)) (fun _ => rfl)
    (PrI L seq lo hi J M W lp bh bl bq)
    (fun c R pre X => c = .ret ∧ (J (fun k => R k ∨ M k) (pairs L seq lo hi) X ∨ ∃ p, p <+: pairs L seq lo hi ∧ Jx (fun k => R k ∨ M k) p X))
    (fun a' x R pre X => PrI L seq lo hi J M W lp bh bl bq R pre X ∧
      ∃ Bf, (Ob.Obj X Bf 57 [.string (Cd.bs x.1.key), .int .u64 x.1.seq, .bool x.1.del, .string (Cd.bs x.1.val)] ∧ ¬ R Bf ∧ ¬ M Bf) ∧
      a' = { tmps := #[.func (.yield lp) #[] #[], .pointer (some ⟨bs, 0, none⟩), .pointer (some ⟨bh, 0, none⟩), .pointer (some ⟨bl, 0, none⟩), .pointer (some ⟨bq, 0, none⟩), .pointer (some ⟨W.heap.size, 0, none⟩), .pointer (some ⟨W.heap.size + 1, 0, none⟩), .pointer (some ⟨Bf, 0, none⟩), .bool x.2, .func (.func gf) #[] lb, .func (.func 56) #[] #[.pointer (some ⟨W.heap.size + 2, 0, none⟩)], .agg #[.string (Cd.bs x.1.key), .int .u64 x.1.seq, .bool x.1.del, .string (Cd.bs x.1.val)], .bool x.2, undef, undef, undef, undef, undef, undef, undef, undef, undef, undef, undef, undef, undef, undef, undef, undef, undef, undef, undef, undef, undef, undef, undef, undef, undef, undef, undef, undef, undef, undef, undef, undef, undef, undef, undef], defers := [] })
    (PrI.steady hJ)
    (fun c R R' s X X' h st => ⟨h.1, h.2.elim (fun h => .inl (hJ _ _ _ _ _ h (st.or M))) (fun ⟨p, h1, h2⟩ => .inr ⟨p, h1, hJx _ _ _ _ _ h2 (st.or M)⟩)⟩)
    (fun a' x => (PrI.steady hJ).and (Sq.Steady.ex fun Bf => (show Sq.Steady (fun R (_ : List (Ver × Bool)) X => Ob.Obj X Bf 57 [.string (Cd.bs x.1.key), .int .u64 x.1.seq, .bool x.1.del, .string (Cd.bs x.1.val)] ∧ ¬ R Bf ∧ ¬ M Bf) from fun R R' s X X' h st => by
      obtain ⟨h1, h2⟩ := Sq.step_obj st h.1 h.2.1
      exact ⟨h1, h2, h.2.2⟩).and (fun _ _ _ _ _ hs _ => hs)))
    ⟨hJ0, ⟨bA, fun h => h⟩, ⟨bY, fun h => h⟩, ⟨bH, fun h => h⟩, ⟨bL, fun h => h⟩, ⟨bQ, fun h => h⟩, by omega, fun v hv => by simp at hv⟩ ?assign ?body ?done ?stop
  case assign =>
    rintro lr R pre x X hbd hsp hi'
    have hszX := hi'.size
    gi_wp2
    refine ⟨Sq.Kept.alloc _ _ _, PrI.steady hJ _ _ _ _ _ hi' (Sq.Step.alloc0 _ _ _), X.heap.size, ⟨Ob.Obj.new X _ _, fun h => by have := hbd _ h; omega, fun h => by have := (hMm _).1 h; omega⟩, ?_⟩
    first | rfl | trivial
  case body =>
    rintro lr R pre x a' X hRl hrec hbd hsp ⟨hI, Bf, ⟨hf, hnf, hmf⟩, rfl⟩
    obtain ⟨hlt, hx1, hx2, hpre, _, hmem⟩ := gp_at hsp
    have hxi := hL x.1 hmem
    have hnx := pr_next seq lo L pre.length x.1 hx1
    rw [← hx2] at hnx
    have hall := hI.all
    have HJ := Lib.hid hI.j
    obtain ⟨hb, hnb⟩ := hI.f
    obtain ⟨hy, hny⟩ := hI.y
    obtain ⟨hh, hnh⟩ := hI.h
    obtain ⟨hl, hnl⟩ := hI.l
    obtain ⟨hqb, hnq⟩ := hI.q
    have hszX := hI.size
    have hstop : (hi.isEmpty || Op.bytesLess x.1.key hi) = false → pairs L seq lo hi = (prN seq lo L pre.length).1 := fun h => by
      have := pairs_stop (seq := seq) (lo := lo) hpre hall h
      rwa [List.length_take, Nat.min_eq_left (by omega)] at this
    have hall2 : (hi.isEmpty || Op.bytesLess x.1.key hi) = true → ∀ v ∈ L.take (pre ++ [x]).length, (hi.isEmpty || Op.bytesLess v.key hi) = true := fun h v hv => by
      rw [List.length_append, List.length_singleton, List.take_succ_eq_append_getElem hlt] at hv
      rcases List.mem_append.1 hv with hv | hv
      · exact hall v hv
      · rw [List.mem_singleton] at hv
        rw [hv, ← getD_at hlt, ← hx1]; exact h
    have hgrow : (hi.isEmpty || Op.bytesLess x.1.key hi) = true → (prN seq lo L (pre.length + 1)).1 <+: pairs L seq lo hi := fun h => by
      have h2 := hall2 h
      rw [List.length_append, List.length_singleton] at h2
      have := pairs_grows (seq := seq) (lo := lo) (List.take_prefix (pre.length + 1) L) h2
      rwa [List.length_take, Nat.min_eq_left (by omega)] at this
    have HLEN := Lib.hid (show (pre ++ [x]).length = pre.length + 1 by simp)
    have HSTOP := Lib.hid hstop
    have HALL := Lib.hid hall2
    have HGROW := Lib.hid hgrow
    have HNX := Lib.hid hnx
    have HSPL := Lib.hid hlt
    clear hI hx1 hx2 hpre hall hstop hall2 hgrow hnx hmem hsp hlt
    have hMy : M W.heap.size := (hMm _).2 (by omega)
    have hMb : M (W.heap.size + 1) := (hMm _).2 (by omega)
    have hTk : ∀ k, W.heap.size ≤ k → ¬ (k = W.heap.size + 2 ∨ T k) → True := fun _ _ _ => trivial
    have hTb : ¬ T (W.heap.size + 1) := fun h => by have := HTL.out _ h; omega
    have hneb : Bf ≠ W.heap.size + 1 := fun e => hmf (e ▸ hMb)
    have HKK := Lib.hid (show ∀ (X3 : World) (X9 : World), Sq.Kept (fun k => R k ∨ (k = W.heap.size + 2 ∨ T k)) X X9 → Sq.Kept (fun k => (R k ∨ M k) ∨ prT bs bh bl bq T k) X9 X3 → Sq.Kept (fun k => R k ∨ (k = W.heap.size + 2 ∨ T k)) X X3 from fun X3 X9 h1 h2 => h1.trans (h2.less fun k h _ => by
      rcases h with h | h | h
      · exact .inl (.inl h)
      · exact .inl (.inr (by subst h; exact (hMm _).2 (by omega)))
      · exact .inr (.inr h)))
    have HYY := Lib.hid (fun (p : Pr) X9 (hst : Sq.Step (fun k => R k ∨ M k) (fun k => R k ∨ M k) X X9) (hp : (prN seq lo L pre.length).1 ++ [p] <+: pairs L seq lo hi) => Sq.anyDepth rfl (n - 1 - 1 - 1) (HY.out (fun k => R k ∨ M k) (prN seq lo L pre.length).1 p X9 (hJ _ _ _ _ _ HJ.out hst) (fun k h => h.elim (fun h => by have := hbd k h; have := hst.kept.size; omega) (fun h => by have := (hMm k).1 h; have := hst.kept.size; omega)) hp))
    have cb := hb.cell
    have fb := hb.frozen
    have cy := hy.cell
    have ch := hh.cell
    have cl := hl.cell
    have cq := hqb.cell
    have g0 := hf.cell 0
    have g1 := hf.cell 1
    have g2 := hf.cell 2
    have g3 := hf.cell 3
    simp at g0 g1 g2 g3
    have HB := Lib.hid hb
    have HYB := Lib.hid hy
    have HH := Lib.hid hh
    have HL := Lib.hid hl
    have HQ := Lib.hid hqb
    have HF := Lib.hid hf
    have hltB := hf.lt
    clear hb hy hh hl hqb hf
    have HMm := Lib.hid hMm
    clear hMm
    obtain ⟨⟨xk, xs, xd, xv⟩, F⟩ := x
    simp only at g0 g1 g2 g3
    have HXI := Lib.hid hxi
    clear hxi
    generalize prN seq lo L pre.length = PF at *
    obtain ⟨P, f0⟩ := PF
    have hdep : 1 ≤ n - 1 - 1 := by omega
    dsimp only
    gi_upto_region 5 with fail
    gi_cut [20] from 13 (fun u wx => u = .bool (!(hi.isEmpty || Op.bytesLess xk hi)) ∧ wx = X)
    case first =>
      by_cases hh : hi.isEmpty = true
      · have hE : hi = [] := by simpa using hh
        subst hE
        gi_wp2_with fail
        gi_meet
        exact ⟨by simp, rfl⟩
      · have hh1 : hi.isEmpty = false := by simpa using hh
        have hne : ¬ hi = [] := by intro h; subst h; simp at hh1
        cases hh2 : Op.bytesLess xk hi with
        | true =>
          gi_wp2_with fail
          gi_meet
          exact ⟨by simp [hh1, hh2], rfl⟩
        | false =>
          gi_wp2_with fail
          gi_meet
          exact ⟨by simp [hh1, hh2], rfl⟩
    case rest =>
      obtain ⟨rfl, rfl⟩ := hcut
      cases hbad : (hi.isEmpty || Op.bytesLess xk hi) with
      | false =>
        rw [Bool.not_false]
        gi_wp2_with fail
        exact ⟨Sq.Kept.refl _ _, rfl, .inl (by rw [HSTOP.out hbad]; exact HJ.out)⟩
      | true =>
        rw [Bool.not_true]
        gi_upto_region 6 with fail
        obtain ⟨X0, rfl⟩ : ∃ X0 : World, X0 = wc := ⟨_, rfl⟩
        cases F with
        | true =>
          have hst2 : Sq.Step (fun k => R k ∨ M k) (fun k => R k ∨ M k) X0 (X0.setCell ⟨W.heap.size + 1, 0, none⟩ (.bool false)) := Sq.Step.setCell _ _ (.inr hMb)
          have hk2 : Sq.Kept (fun k => R k ∨ (k = W.heap.size + 2 ∨ T k)) X0 (X0.setCell ⟨W.heap.size + 1, 0, none⟩ (.bool false)) := Sq.Kept.setCell _ _ (fun h => h.elim hnb (fun h => h.elim (fun h => by simp at h) hTb))
          have b2 : Boxed (X0.setCell ⟨W.heap.size + 1, 0, none⟩ (.bool false)) (W.heap.size + 1) 4 (.bool false) := HB.out.set _
          have y2 : Boxed (X0.setCell ⟨W.heap.size + 1, 0, none⟩ (.bool false)) W.heap.size 87 (.func (.yield lp) #[] #[]) := HYB.out.other (by simp) _
          have h2' : Boxed (X0.setCell ⟨W.heap.size + 1, 0, none⟩ (.bool false)) bh 9 (.string (Cd.bs hi)) := HH.out.other (by omega) _
          have l2' : Boxed (X0.setCell ⟨W.heap.size + 1, 0, none⟩ (.bool false)) bl 9 (.string (Cd.bs lo)) := HL.out.other (by omega) _
          have q2 : Boxed (X0.setCell ⟨W.heap.size + 1, 0, none⟩ (.bool false)) bq 39 (.int .u64 seq) := HQ.out.other (by omega) _
          have o2 := HF.out.other (p := ⟨W.heap.size + 1, 0, none⟩) hneb (.bool false)
          gi_upto_region 8 with fail
          generalize X0.setCell ⟨W.heap.size + 1, 0, none⟩ (.bool false) = X2 at *
          have c2b := b2.cell
          have f2b := b2.frozen
          have c2y := y2.cell
          have c2l := l2'.cell
          have c2q := q2.cell
          have v0 := o2.cell 0
          have v1 := o2.cell 1
          have v2 := o2.cell 2
          have v3 := o2.cell 3
          simp at v0 v1 v2 v3
          have HB2 := Lib.hid b2
          have HY2 := Lib.hid y2
          have HH2 := Lib.hid h2'
          have HL2 := Lib.hid l2'
          have HQ2 := Lib.hid q2
          have HO2 := Lib.hid o2
          have HST2 := Lib.hid hst2
          have HK2 := Lib.hid hk2
          have hlt2 := y2.lt
          have hszX2 := hk2.size
          clear b2 y2 h2' l2' q2 o2 hst2 hk2 cb fb cy ch cl cq g0 g1 g2 g3
          gi_cut [34] from 22 (fun u wx => u = .bool (false || (Op.bytesLess xk lo || decide (seq < xs))) ∧ wx = X2)
          case first =>
            cases hlo : Op.bytesLess xk lo with
            | true =>
              gi_wp2_with fail
              gi_meet
              exact ⟨by simp [hlo], rfl⟩
            | false =>
              by_cases hsq : seq < xs
              · have hsq2 : decide (seq < xs) = true := by simpa using hsq
                gi_wp2_with fail
                gi_meet
                exact ⟨by simp [hlo, hsq], rfl⟩
              · have hsq2 : decide (seq < xs) = false := by simpa using hsq
                gi_wp2_with fail
                gi_meet
                exact ⟨by simp [hlo, hsq], rfl⟩
          case rest =>
            obtain ⟨rfl, rfl⟩ := hcut
            cases hsk : (false || (Op.bytesLess xk lo || decide (seq < xs))) with
            | true =>
              have HN2 := Lib.hid (show prN seq lo L (pre.length + 1) = (P, false) by rw [HNX.out, if_pos (by simpa using hsk)]; simp)
              clear hsk
              gi_wp2_with fail
              refine ⟨HK2.out, ?_, ?_, ⟨HY2.out, hny⟩, ⟨HH2.out, hnh⟩, ⟨HL2.out, hnl⟩, ⟨HQ2.out, hnq⟩, by omega, HALL.out hbad⟩
              · rw [HLEN.out, HN2.out]; exact hJ _ _ _ _ _ HJ.out HST2.out
              · rw [HLEN.out, HN2.out]; exact ⟨HB2.out, hnb⟩
            | false =>
              have hsk2 : false = false ∧ Op.bytesLess xk lo = false ∧ ¬ seq < xs := by
                simp only [Bool.or_eq_false_iff, decide_eq_false_iff_not] at hsk
                obtain ⟨h1, h2, h3⟩ := hsk
                exact ⟨by first | rfl | exact h1, h2, h3⟩
              have HN2 := Lib.hid (show prN seq lo L (pre.length + 1) = (P ++ (if xd = true then [] else [(xk, xv)]), true) by rw [HNX.out]; simp [hsk2])
              clear hsk hsk2
              have hbt : ∀ (v : Value), Boxed (wc.setCell ⟨W.heap.size + 1, 0, none⟩ v) W.heap.size 87 (.func (.yield lp) #[] #[]) := fun v => HY2.out.other (by simp) _
              have ho3 := HO2.out.other (p := ⟨W.heap.size + 1, 0, none⟩) hneb (.bool true)
              have hst3 : Sq.Step (fun k => R k ∨ M k) (fun k => R k ∨ M k) X0 (wc.setCell ⟨W.heap.size + 1, 0, none⟩ (.bool true)) := HST2.out.trans (Sq.Step.setCell _ _ (.inr hMb))
              have hk3' : Sq.Kept (fun k => R k ∨ (k = W.heap.size + 2 ∨ T k)) X0 (wc.setCell ⟨W.heap.size + 1, 0, none⟩ (.bool true)) := HK2.out.trans (Sq.Kept.setCell _ _ (fun h => h.elim hnb (fun h => h.elim (fun h => by simp at h) hTb)))
              have hb3 : Boxed (wc.setCell ⟨W.heap.size + 1, 0, none⟩ (.bool true)) (W.heap.size + 1) 4 (.bool true) := HB2.out.set _
              have hy3 := hbt (.bool true)
              have hh3 : Boxed (wc.setCell ⟨W.heap.size + 1, 0, none⟩ (.bool true)) bh 9 (.string (Cd.bs hi)) := HH2.out.other (by omega) _
              have hl3 : Boxed (wc.setCell ⟨W.heap.size + 1, 0, none⟩ (.bool true)) bl 9 (.string (Cd.bs lo)) := HL2.out.other (by omega) _
              have hq3 : Boxed (wc.setCell ⟨W.heap.size + 1, 0, none⟩ (.bool true)) bq 39 (.int .u64 seq) := HQ2.out.other (by omega) _
              gi_upto_region 10 with fail
              generalize wc.setCell ⟨W.heap.size + 1, 0, none⟩ (.bool true) = X4 at *
              have x2 := ho3.cell 2
              have x0 := ho3.cell 0
              have x3 := ho3.cell 3
              simp at x0 x2 x3
              have cy3 := hy3.cell
              have HST3 := Lib.hid hst3
              have HK3 := Lib.hid hk3'
              have HB3 := Lib.hid hb3
              have HY3 := Lib.hid hy3
              have HH3 := Lib.hid hh3
              have HL3 := Lib.hid hl3
              have HQ3 := Lib.hid hq3
              have hsz3 := hk3'.size
              clear hst3 hk3' hb3 hy3 hh3 hl3 hq3 ho3 hbt
              cases xd with
              | true =>
                gi_wp2_with fail
                refine ⟨fun _ _ => trivial, ?_⟩
                gi_wp2_with fail
                refine ⟨HK3.out, ?_, ?_, ⟨HY3.out, hny⟩, ⟨HH3.out, hnh⟩, ⟨HL3.out, hnl⟩, ⟨HQ3.out, hnq⟩, by omega, HALL.out hbad⟩
                · rw [HLEN.out, HN2.out]; simpa using hJ _ _ _ _ _ HJ.out HST3.out
                · rw [HLEN.out, HN2.out]; exact ⟨HB3.out, hnb⟩
              | false =>
                have HP := Lib.hid (show P ++ [(xk, xv)] <+: pairs L seq lo hi from by have := HGROW.out hbad; rw [HN2.out] at this; simpa using this)
                obtain ⟨fn, tmps, assign, body, hyy, hR⟩ := HYY.out (xk, xv) X4 HST3.out HP.out
                have HR := Lib.hid hR
                clear hR
                simp only [pEnc9] at hyy
                gi_wp2_with fail
                refine (Sq.round_in lr HR.out).mono ?_
                rintro e X5 (⟨rfl, hj5, hk5⟩ | ⟨rfl, hjx5, hk5⟩)
                · have hb5 := hk5.boxed (.inl (.inr hMb)) HB3.out
                  have hy5 := hk5.boxed (.inl (.inr hMy)) HY3.out
                  have hh5 := hk5.boxed (.inr (.inl (.inr (.inl rfl)))) HH3.out
                  have hl5 := hk5.boxed (.inr (.inl (.inr (.inr (.inl rfl))))) HL3.out
                  have hq5 := hk5.boxed (.inr (.inl (.inr (.inr (.inr rfl))))) HQ3.out
                  gi_wp2_with fail
                  refine ⟨HKK.out X5 _ HK3.out hk5, ?_, ?_, ⟨hy5, hny⟩, ⟨hh5, hnh⟩, ⟨hl5, hnl⟩, ⟨hq5, hnq⟩, by have := hk5.size; omega, HALL.out hbad⟩
                  · rw [HLEN.out, HN2.out]; simpa using hj5
                  · rw [HLEN.out, HN2.out]; exact ⟨hb5, hnb⟩
                · gi_wp2_with fail
                  exact ⟨HKK.out X5 _ HK3.out hk5, rfl, .inr ⟨_, HP.out, hjx5⟩⟩
        | false =>
          have hst2 : Sq.Step (fun k => R k ∨ M k) (fun k => R k ∨ M k) X0 X0 := Sq.Step.refl _ _
          have hk2 : Sq.Kept (fun k => R k ∨ (k = W.heap.size + 2 ∨ T k)) X0 X0 := Sq.Kept.refl _ _
          have b2 := HB.out
          have y2 := HYB.out
          have h2' := HH.out
          have l2' := HL.out
          have q2 := HQ.out
          have o2 := HF.out
          gi_upto_region 8 with fail
          have c2b := b2.cell
          have f2b := b2.frozen
          have c2y := y2.cell
          have c2l := l2'.cell
          have c2q := q2.cell
          have v0 := o2.cell 0
          have v1 := o2.cell 1
          have v2 := o2.cell 2
          have v3 := o2.cell 3
          simp at v0 v1 v2 v3
          have HB2 := Lib.hid b2
          have HY2 := Lib.hid y2
          have HH2 := Lib.hid h2'
          have HL2 := Lib.hid l2'
          have HQ2 := Lib.hid q2
          have HO2 := Lib.hid o2
          have HST2 := Lib.hid hst2
          have HK2 := Lib.hid hk2
          have hlt2 := y2.lt
          have hszX0 := hk2.size
          clear b2 y2 h2' l2' q2 o2 hst2 hk2 cb fb cy ch cl cq g0 g1 g2 g3
          gi_cut [34] from 22 (fun u wx => u = .bool (f0 || (Op.bytesLess xk lo || decide (seq < xs))) ∧ wx = X0)
          case first =>
            cases f0 with
            | true =>
              gi_wp2_with fail
              gi_meet
              exact ⟨congrArg Value.bool (Bool.true_or _).symm, rfl⟩
            | false =>
              cases hlo : Op.bytesLess xk lo with
              | true =>
                gi_wp2_with fail
                gi_meet
                exact ⟨by first | rfl | (simp; done) | simp [hlo], rfl⟩
              | false =>
                by_cases hsq : seq < xs
                · have hsq2 : decide (seq < xs) = true := by simpa using hsq
                  gi_wp2_with fail
                  gi_meet
                  exact ⟨by simp [hlo, hsq], rfl⟩
                · have hsq2 : decide (seq < xs) = false := by simpa using hsq
                  gi_wp2_with fail
                  gi_meet
                  exact ⟨by simp [hlo, hsq], rfl⟩
          case rest =>
            obtain ⟨rfl, rfl⟩ := hcut
            cases hsk : (f0 || (Op.bytesLess xk lo || decide (seq < xs))) with
            | true =>
              have HN2 := Lib.hid (show prN seq lo L (pre.length + 1) = (P, f0) by rw [HNX.out, if_pos (by simpa using hsk)]; simp)
              clear hsk
              gi_wp2_with fail
              refine ⟨HK2.out, ?_, ?_, ⟨HY2.out, hny⟩, ⟨HH2.out, hnh⟩, ⟨HL2.out, hnl⟩, ⟨HQ2.out, hnq⟩, by omega, HALL.out hbad⟩
              · rw [HLEN.out, HN2.out]; exact hJ _ _ _ _ _ HJ.out HST2.out
              · rw [HLEN.out, HN2.out]; exact ⟨HB2.out, hnb⟩
            | false =>
              have hsk2 : f0 = false ∧ Op.bytesLess xk lo = false ∧ ¬ seq < xs := by
                simp only [Bool.or_eq_false_iff, decide_eq_false_iff_not] at hsk
                obtain ⟨h1, h2, h3⟩ := hsk
                exact ⟨by first | rfl | exact h1, h2, h3⟩
              have HN2 := Lib.hid (show prN seq lo L (pre.length + 1) = (P ++ (if xd = true then [] else [(xk, xv)]), true) by rw [HNX.out]; simp [hsk2])
              clear hsk hsk2
              have hbt : ∀ (v : Value), Boxed (wc.setCell ⟨W.heap.size + 1, 0, none⟩ v) W.heap.size 87 (.func (.yield lp) #[] #[]) := fun v => HY2.out.other (by simp) _
              have ho3 := HO2.out.other (p := ⟨W.heap.size + 1, 0, none⟩) hneb (.bool true)
              have hst3 : Sq.Step (fun k => R k ∨ M k) (fun k => R k ∨ M k) wc (wc.setCell ⟨W.heap.size + 1, 0, none⟩ (.bool true)) := HST2.out.trans (Sq.Step.setCell _ _ (.inr hMb))
              have hk3' : Sq.Kept (fun k => R k ∨ (k = W.heap.size + 2 ∨ T k)) wc (wc.setCell ⟨W.heap.size + 1, 0, none⟩ (.bool true)) := HK2.out.trans (Sq.Kept.setCell _ _ (fun h => h.elim hnb (fun h => h.elim (fun h => by simp at h) hTb)))
              have hb3 : Boxed (wc.setCell ⟨W.heap.size + 1, 0, none⟩ (.bool true)) (W.heap.size + 1) 4 (.bool true) := HB2.out.set _
              have hy3 := hbt (.bool true)
              have hh3 : Boxed (wc.setCell ⟨W.heap.size + 1, 0, none⟩ (.bool true)) bh 9 (.string (Cd.bs hi)) := HH2.out.other (by omega) _
              have hl3 : Boxed (wc.setCell ⟨W.heap.size + 1, 0, none⟩ (.bool true)) bl 9 (.string (Cd.bs lo)) := HL2.out.other (by omega) _
              have hq3 : Boxed (wc.setCell ⟨W.heap.size + 1, 0, none⟩ (.bool true)) bq 39 (.int .u64 seq) := HQ2.out.other (by omega) _
              gi_upto_region 10 with fail
              generalize wc.setCell ⟨W.heap.size + 1, 0, none⟩ (.bool true) = X4 at *
              have x2 := ho3.cell 2
              have x0 := ho3.cell 0
              have x3 := ho3.cell 3
              simp at x0 x2 x3
              have cy3 := hy3.cell
              have HST3 := Lib.hid hst3
              have HK3 := Lib.hid hk3'
              have HB3 := Lib.hid hb3
              have HY3 := Lib.hid hy3
              have HH3 := Lib.hid hh3
              have HL3 := Lib.hid hl3
              have HQ3 := Lib.hid hq3
              have hsz3 := hk3'.size
              clear hst3 hk3' hb3 hy3 hh3 hl3 hq3 ho3 hbt
              cases xd with
              | true =>
                gi_wp2_with fail
                refine ⟨fun _ _ => trivial, ?_⟩
                gi_wp2_with fail
                refine ⟨HK3.out, ?_, ?_, ⟨HY3.out, hny⟩, ⟨HH3.out, hnh⟩, ⟨HL3.out, hnl⟩, ⟨HQ3.out, hnq⟩, by omega, HALL.out hbad⟩
                · rw [HLEN.out, HN2.out]; simpa using hJ _ _ _ _ _ HJ.out HST3.out
                · rw [HLEN.out, HN2.out]; exact ⟨HB3.out, hnb⟩
              | false =>
                have HP := Lib.hid (show P ++ [(xk, xv)] <+: pairs L seq lo hi from by have := HGROW.out hbad; rw [HN2.out] at this; simpa using this)
                obtain ⟨fn, tmps, assign, body, hyy, hR⟩ := HYY.out (xk, xv) X4 HST3.out HP.out
                have HR := Lib.hid hR
                clear hR
                simp only [pEnc9] at hyy
                gi_wp2_with fail
                refine (Sq.round_in lr HR.out).mono ?_
                rintro e X5 (⟨rfl, hj5, hk5⟩ | ⟨rfl, hjx5, hk5⟩)
                · have hb5 := hk5.boxed (.inl (.inr hMb)) HB3.out
                  have hy5 := hk5.boxed (.inl (.inr hMy)) HY3.out
                  have hh5 := hk5.boxed (.inr (.inl (.inr (.inl rfl)))) HH3.out
                  have hl5 := hk5.boxed (.inr (.inl (.inr (.inr (.inl rfl))))) HL3.out
                  have hq5 := hk5.boxed (.inr (.inl (.inr (.inr (.inr rfl))))) HQ3.out
                  gi_wp2_with fail
                  refine ⟨HKK.out X5 _ HK3.out hk5, ?_, ?_, ⟨hy5, hny⟩, ⟨hh5, hnh⟩, ⟨hl5, hnl⟩, ⟨hq5, hnq⟩, by have := hk5.size; omega, HALL.out hbad⟩
                  · rw [HLEN.out, HN2.out]; simpa using hj5
                  · rw [HLEN.out, HN2.out]; exact ⟨hb5, hnb⟩
                · gi_wp2_with fail
                  exact ⟨HKK.out X5 _ HK3.out hk5, rfl, .inr ⟨_, HP.out, hjx5⟩⟩
  case done =>
    rintro D R ys X hD hRD rfl hi' hdf
    have hall := hi'.all
    rw [gp_len, List.take_length] at hall
    have hj := hi'.j
    rw [gp_len, ← pairs_all hall] at hj
    gi_wp2
    refine ⟨by simp, .inl ⟨_, _, rfl, run_takeDeferred hdf, ?_⟩⟩
    exact ⟨_, results_none rfl _ _ _, ⟨_, rfl⟩, .inl ⟨_, _, rfl, hJ _ _ _ _ _ hj (Sq.Step.putObj _ _ (.inl hRD))⟩⟩
  case stop =>
    rintro D R c pre X hD hRD hsp ⟨rfl, hj⟩ hdf
    gi_wp2
    refine ⟨by simp, .inl ⟨_, _, rfl, run_takeDeferred hdf, ?_⟩⟩
    rcases hj with hj | ⟨p, hp, hj⟩
    · exact ⟨_, results_none rfl _ _ _, ⟨_, rfl⟩, .inl ⟨_, _, rfl, hJ _ _ _ _ _ hj (Sq.Step.putObj _ _ (.inl hRD))⟩⟩
    · exact ⟨_, results_none rfl _ _ _, ⟨_, rfl⟩, .inr ⟨_, _, hp, hJx _ _ _ _ _ hj (Sq.Step.putObj _ _ (.inl hRD))⟩⟩
end Mg
end Go.Proofs.Ytaohipgfnnclhaa

/-
  The program's merge: Pairs, called.
-/
namespace Go.Proofs.Ytaohipgfnnclhaa
open Go.RowKit Go.Shelf
set_option linter.unusedSimpArgs false
set_option linter.unusedVariables false
namespace Mg
open Mt (Ver mayB lessB placeB VerIn verV)
open Vs (Vers At vcs)

/-- while the bounds are cloned their boxes hold the same -/
def PaS (w : World) (s q lo hi : Value) (W : World) : Prop := Below w.heap.size w W ∧ Boxed W w.heap.size 26 s ∧ Boxed W (w.heap.size + 1) 39 q ∧ Boxed W (w.heap.size + 2) 9 lo ∧ Boxed W (w.heap.size + 3) 9 hi
theorem PaS.cells {w W : World} {s q lo hi : Value} (h : PaS w s q lo hi W) : PaS w s q lo hi W ∧ W.cell? ⟨w.heap.size + 2, 0, none⟩ = some lo ∧ W.cell? ⟨w.heap.size + 3, 0, none⟩ = some hi ∧ W.frozen? ⟨w.heap.size + 2, 0, none⟩ = false ∧ W.frozen? ⟨w.heap.size + 3, 0, none⟩ = false :=
  ⟨h, h.2.2.2.1.cell, h.2.2.2.2.cell, h.2.2.2.1.frozen, h.2.2.2.2.frozen⟩
theorem PaS.drew {w W : World} {s q lo hi : Value} (h : PaS w s q lo hi W) : PaS w s q lo hi W.drew := ⟨h.1.drew, h.2⟩
theorem PaS.next {w W W' : World} {s q lo hi : Value} (h : PaS w s q lo hi W) (hb : Below W.heap.size W W') : PaS w s q lo hi W' :=
  ⟨h.1.trans (hb.mono h.1.size), Ob.Obj.below (W := W) h.2.1 hb, Ob.Obj.below (W := W) h.2.2.1 hb, Ob.Obj.below (W := W) h.2.2.2.1 hb, Ob.Obj.below (W := W) h.2.2.2.2 hb⟩
theorem PaS.set2 {w W : World} {s q lo hi : Value} (h : PaS w s q lo hi W) : PaS w s q lo hi (W.setCell ⟨w.heap.size + 2, 0, none⟩ lo) :=
  ⟨h.1.setCell (by simp) _, h.2.1.other (by simp) _, h.2.2.1.other (by simp) _, h.2.2.2.1.set _, h.2.2.2.2.other (by simp) _⟩
theorem PaS.set3 {w W : World} {s q lo hi : Value} (h : PaS w s q lo hi W) : PaS w s q lo hi (W.setCell ⟨w.heap.size + 3, 0, none⟩ hi) :=
  ⟨h.1.setCell (by simp) _, h.2.1.other (by simp) _, h.2.2.1.other (by simp) _, h.2.2.2.1.other (by simp) _, h.2.2.2.2.set _⟩

set_option maxRecDepth 100000 in
set_option maxHeartbeats 4000000 in
theorem pairsOk : PairsOk := by
  intro sv L T seq lo hi w hT hL hmany hq hlo hhi
  obtain ⟨gf, lb, rfl⟩ : ∃ gf lb, sv = .func (.func gf) #[] lb := by obtain ⟨gf, lb, h, _⟩ := hT; exact ⟨gf, lb, h⟩
  have HT := Lib.hid hT
  have HTL := Lib.hid (show ∀ k, T k → k < w.heap.size from by obtain ⟨gf, lb, _, _, h, _⟩ := hT; exact h)
  clear hT
  have HK := Lib.hid (fun W => clone_any (Cd.bs lo) W (by show lo.length ≤ _; omega))
  have HV := Lib.hid (fun W => clone_any (Cd.bs hi) W (by show hi.length ≤ _; omega))
  obtain ⟨wA, hwA⟩ : ∃ wA, (((w.alloc (.cells #[.func (.func gf) #[] lb] 26)).alloc (.cells #[.int .u64 seq] 39)).alloc (.cells #[.string (Cd.bs lo)] 9)).alloc (.cells #[.string (Cd.bs hi)] 9) = wA := ⟨_, rfl⟩
  have hS : PaS w (.func (.func gf) #[] lb) (.int .u64 seq) (.string (Cd.bs lo)) (.string (Cd.bs hi)) wA := by
    rw [← hwA]
    refine ⟨((((Below.refl _ _).alloc (Nat.le_refl _) _).alloc (by simp) _).alloc (by simp; omega) _).alloc (by simp; omega) _, (((Boxed.new w _ _).alloc _).alloc _).alloc _, ?_, ?_, ?_⟩
    · have := Boxed.new (w.alloc (.cells #[.func (.func gf) #[] lb] 26)) 39 (.int .u64 seq)
      rw [World.size_alloc] at this; exact (this.alloc _).alloc _
    · have := Boxed.new ((w.alloc (.cells #[.func (.func gf) #[] lb] 26)).alloc (.cells #[.int .u64 seq] 39)) 9 (.string (Cd.bs lo))
      rw [World.size_alloc, World.size_alloc] at this; exact this.alloc _
    · have := Boxed.new (((w.alloc (.cells #[.func (.func gf) #[] lb] 26)).alloc (.cells #[.int .u64 seq] 39)).alloc (.cells #[.string (Cd.bs lo)] 9)) 9 (.string (Cd.bs hi))
      rwa [World.size_alloc, World.size_alloc, World.size_alloc] at this
  have HWA := Lib.hid hwA
  clear hwA
  have HS0 := Lib.hid hS.cells
  have HS1 := Lib.hid hS.drew.cells
  clear hS
  go_enter Try.func17, Try.ntmps17
  go_upto_region 1 with fail
  rw [HWA.out]
  go_cut [] from 9 to 13 (fun wx => PaS w (.func (.func gf) #[] lb) (.int .u64 seq) (.string (Cd.bs lo)) (.string (Cd.bs hi)) wx)
  case first =>
    go_region_held3 (fun W => PaS w (.func (.func gf) #[] lb) (.int .u64 seq) (.string (Cd.bs lo)) (.string (Cd.bs hi)) W ∧ W.cell? ⟨w.heap.size + 2, 0, none⟩ = some (.string (Cd.bs lo)) ∧ W.cell? ⟨w.heap.size + 3, 0, none⟩ = some (.string (Cd.bs hi)) ∧ W.frozen? ⟨w.heap.size + 2, 0, none⟩ = false ∧ W.frozen? ⟨w.heap.size + 3, 0, none⟩ = false)
      (first | exact HS0.out | exact HS1.out | exact ((show PaS w (.func (.func gf) #[] lb) (.int .u64 seq) (.string (Cd.bs lo)) (.string (Cd.bs hi)) _ from (by assumption : _ ∧ _).1).next hb9).cells | exact ((show PaS w (.func (.func gf) #[] lb) (.int .u64 seq) (.string (Cd.bs lo)) (.string (Cd.bs hi)) _ from (by assumption : _ ∧ _).1).set2).cells | exact ((show PaS w (.func (.func gf) #[] lb) (.int .u64 seq) (.string (Cd.bs lo)) (.string (Cd.bs hi)) _ from (by assumption : _ ∧ _).1).set3).cells)
      (first
      | (go_at_call 40; (with_reducible refine (HK.out _).mono ?_); rintro e w9 ⟨rfl, hb9⟩)
      | (go_at_call 40; (with_reducible refine (HV.out _).mono ?_); rintro e w9 ⟨rfl, hb9⟩))
    all_goals (try go_wp2_with fail)
    all_goals go_meet
    all_goals exact (show PaS w (.func (.func gf) #[] lb) (.int .u64 seq) (.string (Cd.bs lo)) (.string (Cd.bs hi)) _ ∧ _ from by assumption).1
  case rest =>
    have hmf : ∀ (fn : Fn) (first cap : Array Value) (w : World), (Instr.makeFunc fn first cap).run Try.prog w = .ok (.func fn first cap) w := fun _ _ _ _ => rfl
    have HB := Lib.hid hcut
    go_wp2_with fail
    go_ret
    obtain ⟨hbel, b0, b1, b2, b3⟩ := HB.out
    refine ⟨_, prT w.heap.size (w.heap.size + 3) (w.heap.size + 2) (w.heap.size + 1) T, rfl, ⟨41, _, rfl, enters_of Try.func41 (by kernel_rfl) rfl, ?_, fun W hW => ?_⟩, hbel⟩
    · rintro k ((rfl | rfl | rfl | rfl) | h)
      · exact b0.lt
      · exact b3.lt
      · exact b2.lt
      · exact b1.lt
      · have := HTL.out k h; have := hbel.size; omega
    · have hT' := HT.out.below hbel
      exact pairs1_seq 11 (by omega) _ L T hL seq hq lo hi _ _ _ _ W (PrC.kept ⟨b0, b3, b2, b1⟩ hW) (hT'.kept (hW.less fun k h _ => .inr h))
end Mg
end Go.Proofs.Ytaohipgfnnclhaa
