/-
  What frame.All owes as an iterator; frame.End.
-/
import Derived.Test.YtgbfaabidplajaaFrameSeq
namespace Go.Proofs.Ytgbfaabidplajaa
open Go.RowKit Go.Shelf
set_option linter.unusedSimpArgs false
set_option linter.unusedVariables false

attribute [local go_sem] Oper.semAt_some

set_option maxHeartbeats 1000000 in
theorem ends_in (n : Nat) (s : ByteArray) (w : World) :
    CallsIn Fence.wide n Try.prog 26 #[.string s] w fun e w' => e = .returned (.func (.func 34) #[] #[.pointer (some ⟨w.heap.size, 0, none⟩)]) ∧ w' = w.alloc (.cells #[.string s] 9) := by
  refine callsIn_of_wp Try.func26 rfl trivial ?_ rfl
  simp only [Try.ntmps26, List.size_toArray, List.length_cons, List.length_nil, Nat.reduceAdd, Nat.reduceSub, Array.replicate_succ, Array.replicate_zero, List.push_toArray, List.append_toArray, List.nil_append, List.cons_append]
  gi_wp2
  go_ret
  exact ⟨rfl, rfl⟩
set_option maxHeartbeats 1000000 in
theorem all_in (n : Nat) (s : ByteArray) (w : World) :
    CallsIn Fence.wide n Try.prog 17 #[.string s] w fun e w' => e = .returned (.func (.func 25) #[] #[.pointer (some ⟨w.heap.size, 0, none⟩)]) ∧ w' = w.alloc (.cells #[.string s] 9) := by
  refine callsIn_of_wp Try.func17 rfl trivial ?_ rfl
  simp only [Try.ntmps17, List.size_toArray, List.length_cons, List.length_nil, Nat.reduceAdd, Nat.reduceSub, Array.replicate_succ, Array.replicate_zero, List.push_toArray, List.append_toArray, List.nil_append, List.cons_append]
  gi_wp2
  go_ret
  exact ⟨rfl, rfl⟩

set_option maxRecDepth 100000 in
set_option maxHeartbeats 4000000 in
theorem end_any (l : List UInt8) (w : World) (hs : l.length ≤ 140737488351232) :
    Calls Try.prog 18 #[.string (Cd.bs l)] w fun e w' => e = .returned (.int .i64 ((Fr.all l).2 : Int)) ∧ Below w.heap.size w w' := by
  refine (callsIn_wide (n := 9)).1 ?_
  refine callsIn_of_wp_marks Try.func18 rfl trivial ?_ rfl
  simp only [Try.ntmps18, List.size_toArray, List.length_cons, List.length_nil, Nat.reduceAdd, Nat.reduceSub, Array.replicate_succ, Array.replicate_zero, List.push_toArray, List.append_toArray, List.nil_append, List.cons_append]
  gi_wp2_with (refine ⟨trivial, ?_⟩; gi_at_call 26; refine (ends_in _ _ _).mono ?_; rintro e w' ⟨rfl, rfl⟩)
  obtain ⟨W0, hW0⟩ : ∃ W0, (w.alloc (.cells #[.int .i64 0] 3)).alloc (.cells #[.string (Cd.bs l)] 9) = W0 := ⟨_, rfl⟩
  have hsz : W0.heap.size = w.heap.size + 2 := by rw [← hW0]; simp
  have bL : Boxed W0 w.heap.size 3 (.int .i64 0) := by rw [← hW0]; exact (Boxed.new w _ _).alloc _
  have bS : Boxed W0 (w.heap.size + 1) 9 (.string (Cd.bs l)) := by rw [← hW0]; have := Boxed.new (w.alloc (.cells #[.int .i64 0] 3)) 9 (.string (Cd.bs l)); rwa [World.size_alloc] at this
  have hK0 : Sq.Kept (fun k => k < w.heap.size) w W0 := by rw [← hW0]; exact (Sq.Kept.alloc _ _ _).trans (Sq.Kept.alloc _ _ _)
  rw [hW0]
  clear hW0
  refine Sq.wp_range rfl (by omega) (gf := 34) (lb := #[.pointer (some ⟨w.heap.size + 1, 0, none⟩)]) rfl trivial (enters_of Try.func34 (by kernel_rfl) rfl)
    (ends1_seq 8 (by omega) l hs (w.heap.size + 1) W0 bS) (by rintro k rfl; omega) (fun _ => rfl)
    (fun R pre W => (Boxed W w.heap.size 3 (.int .i64 (Fr.lastEnd 0 pre : Nat)) ∧ ¬ R w.heap.size) ∧ (Sq.Kept (fun k => k < w.heap.size) w W ∧ ∀ k, k < w.heap.size → k < w.heap.size → ¬ R k))
    (fun _ _ _ _ => False)
    (fun a' x R pre W => ((Boxed W w.heap.size 3 (.int .i64 (Fr.lastEnd 0 pre : Nat)) ∧ ¬ R w.heap.size) ∧ (Sq.Kept (fun k => k < w.heap.size) w W ∧ ∀ k, k < w.heap.size → k < w.heap.size → ¬ R k)) ∧
      a' = { tmps := #[.string (Cd.bs l), undef, .int .i64 0, .pointer (some ⟨w.heap.size, 0, none⟩), .int .i64 (x.1 : Int), .string (Cd.bs l), .func (.func 34) #[] #[.pointer (some ⟨w.heap.size + 1, 0, none⟩)], .int .i64 (x.1 : Int), .agg #[.int .u8 (x.2.1.toNat : Int), .string (Cd.bs x.2.2)], undef, undef], defers := [] })
    ((Sq.Steady.box _ _ _).and (Sq.Steady.kept _ _))
    (fun _ => Sq.Steady.no)
    (fun a' x => ((Sq.Steady.box _ _ _).and (Sq.Steady.kept _ _)).and (fun _ _ _ _ _ hs _ => hs))
    ⟨⟨bL, fun h => h⟩, hK0, fun _ _ _ h => h⟩ ?assign ?body ?done ?stop
  case assign =>
    intro lp R pre x W hbd hsp hi
    gi_wp2
    exact ⟨Sq.Kept.refl _ _, hi, by first | rfl | trivial⟩
  case body =>
    rintro lp R pre x a' W hRl hrec hbd hsp ⟨⟨⟨hb, hnb⟩, hk, hnk⟩, rfl⟩
    have hc := hb.cell
    have hf := hb.frozen
    gi_wp2
    exact ⟨Sq.Kept.setCell _ _ (by rintro (h | h); exact hnb h; simp at h), ⟨by rw [Fr.lastEnd_snoc]; exact hb.set _, hnb⟩, hk.trans (Sq.Kept.setCell _ _ (by simp)), hnk⟩
  case done =>
    rintro D R ys W hD hRD rfl ⟨⟨hb, hnb⟩, hk, hnk⟩ hdf
    have hc := hb.cell
    gi_wp2
    refine ⟨by simp, .inl ⟨_, _, rfl, run_takeDeferred hdf, ?_⟩⟩
    exact ⟨_, results_tmp rfl _ _ _, by rw [Fr.all, Fr.allGo_shift]; rfl, (hk.trans (Sq.Kept.putObj _ _ (by omega))).below (fun _ h => h) (Nat.le_refl _)⟩
  case stop =>
    intro D R c pre W _ _ _ h _
    exact h.elim

set_option maxRecDepth 100000 in
set_option maxHeartbeats 4000000 in
/-- frame.All(s) hands on the frames of s, each with its place. -/
theorem all1_seq (n : Nat) (hn : 5 ≤ n) (l : List UInt8) (hs : l.length ≤ 140737488351232) (Bs : Nat) (w : World) (hB : Boxed w Bs 9 (.string (Cd.bs l))) :
    Sq.SeqC Fence.wide n Try.prog 25 #[.pointer (some ⟨Bs, 0, none⟩)] fEnc (· = Bs) (fun ys => ys = (Fr.all l).1) (fun pre => pre <+: (Fr.all l).1) w := by
  intro lp J Jx W hW hJ hJx hY h0
  have hBW := hW.boxed rfl hB
  have hcB := hBW.cell
  have hlB := hBW.lt
  have hn1 : 1 ≤ n := by omega
  refine callsIn_of_wp_marks Try.func25 rfl trivial ?_ rfl
  simp only [Try.ntmps25, List.size_toArray, List.length_cons, List.length_nil, Nat.reduceAdd, Nat.reduceSub, Array.replicate_succ, Array.replicate_zero, List.push_toArray, List.append_toArray, List.nil_append, List.cons_append]
  gi_wp2_with (refine ⟨trivial, ?_⟩; gi_at_call 26; refine (ends_in _ _ _).mono ?_; rintro e w' ⟨rfl, rfl⟩)
  obtain ⟨W0, hW0⟩ : ∃ W0, ((W.alloc (.cells #[.func (.yield lp) #[] #[]] 54)).alloc (.cells #[.int .i64 0] 3)).alloc (.cells #[.string (Cd.bs l)] 9) = W0 := ⟨_, rfl⟩
  have hsz : W0.heap.size = W.heap.size + 3 := by rw [← hW0]; simp
  have bY : Boxed W0 W.heap.size 54 (.func (.yield lp) #[] #[]) := by rw [← hW0]; exact ((Boxed.new W _ _).alloc _).alloc _
  have bA : Boxed W0 (W.heap.size + 1) 3 (.int .i64 0) := by
    rw [← hW0]; have := Boxed.new (W.alloc (.cells #[.func (.yield lp) #[] #[]] 54)) 3 (.int .i64 0)
    rw [World.size_alloc] at this; exact this.alloc _
  have bS : Boxed W0 (W.heap.size + 2) 9 (.string (Cd.bs l)) := by
    rw [← hW0]; have := Boxed.new ((W.alloc (.cells #[.func (.yield lp) #[] #[]] 54)).alloc (.cells #[.int .i64 0] 3)) 9 (.string (Cd.bs l))
    rwa [World.size_alloc, World.size_alloc] at this
  obtain ⟨M, hM⟩ : ∃ M : Sq.Blocks, M = fun k => W.heap.size ≤ k ∧ k < W.heap.size + 3 := ⟨_, rfl⟩
  have hMm : ∀ k, M k ↔ W.heap.size ≤ k ∧ k < W.heap.size + 3 := fun k => by rw [hM]
  have hJ0 : J (fun k => False ∨ M k) [] W0 := hJ _ _ _ _ _ h0 ⟨by rw [← hW0]; exact ((Sq.Kept.alloc _ _ _).trans (Sq.Kept.alloc _ _ _)).trans (Sq.Kept.alloc _ _ _), fun _ h => h.elim, fun k h => h.elim (fun h => h.elim) (fun h => .inr ((hMm k).1 h).1)⟩
  rw [hW0]
  clear hW0 hM
  have hsub : ∀ pre : List (Nat × Fr.Fm), pre <+: Fr.endsGo l 0 → Fr.shift 0 pre <+: (Fr.all l).1 := fun pre h => by rw [Fr.all, Fr.allGo_shift]; exact Fr.shift_pre 0 h
  refine Sq.wp_range rfl (by omega) (gf := 34) (lb := #[.pointer (some ⟨W.heap.size + 2, 0, none⟩)]) rfl trivial (enters_of Try.func34 (by kernel_rfl) rfl)
    (ends1_seq (n - 1) (by omega) l hs (W.heap.size + 2) W0 bS) (by rintro k rfl; omega) (fun _ => rfl)
    (fun R pre X => J (fun k => R k ∨ M k) (Fr.shift 0 pre) X ∧ (Boxed X (W.heap.size + 1) 3 (.int .i64 (Fr.lastEnd 0 pre : Nat)) ∧ ¬ R (W.heap.size + 1)) ∧ (Boxed X W.heap.size 54 (.func (.yield lp) #[] #[]) ∧ ¬ R W.heap.size))
    (fun c R pre X => c = .ret ∧ Jx (fun k => R k ∨ M k) (Fr.shift 0 pre) X)
    (fun a' x R pre X => (J (fun k => R k ∨ M k) (Fr.shift 0 pre) X ∧ (Boxed X (W.heap.size + 1) 3 (.int .i64 (Fr.lastEnd 0 pre : Nat)) ∧ ¬ R (W.heap.size + 1)) ∧ (Boxed X W.heap.size 54 (.func (.yield lp) #[] #[]) ∧ ¬ R W.heap.size)) ∧
      ∃ Bf, (X.heap[Bf]? = some (.cells #[.int .u8 (x.2.1.toNat : Int), .string (Cd.bs x.2.2)] 23 (0, 0)) ∧ ¬ R Bf) ∧
      a' = { tmps := #[.func (.yield lp) #[] #[], .pointer (some ⟨Bs, 0, none⟩), .pointer (some ⟨W.heap.size, 0, none⟩), .pointer (some ⟨W.heap.size + 1, 0, none⟩), .int .i64 (x.1 : Int), .pointer (some ⟨Bf, 0, none⟩), .string (Cd.bs l), .func (.func 34) #[] #[.pointer (some ⟨W.heap.size + 2, 0, none⟩)], .int .i64 (x.1 : Int), .agg #[.int .u8 (x.2.1.toNat : Int), .string (Cd.bs x.2.2)], undef, undef, undef, undef, undef, undef], defers := [] })
    ((hJ.or M (Fr.shift 0)).and ((Sq.Steady.box _ _ _).and (Sq.Steady.box _ _ _)))
    (fun c => (Sq.Steady.pure _).and (hJx.or M (Fr.shift 0)))
    (fun a' x => ((hJ.or M (Fr.shift 0)).and ((Sq.Steady.box _ _ _).and (Sq.Steady.box _ _ _))).and (Sq.Steady.ex fun Bf => (Sq.Steady.obj _ _).and (fun _ _ _ _ _ hs _ => hs)))
    ⟨hJ0, ⟨bA, fun h => h⟩, bY, fun h => h⟩ ?assign ?body ?done ?stop
  case assign =>
    rintro lr R pre x X hbd hsp ⟨hj, ⟨hb, hnb⟩, hy, hny⟩
    gi_wp2
    refine ⟨Sq.Kept.alloc _ _ _, ⟨hJ _ _ _ _ _ hj (Sq.Step.alloc0 _ _ _), ⟨hb.alloc _, hnb⟩, hy.alloc _, hny⟩, X.heap.size, ⟨World.alloc_heap_new X _, fun h => by have := hbd _ h; omega⟩, ?_⟩
    first | rfl | trivial
  case body =>
    rintro lr R pre x a' X hRl hrec hbd hsp ⟨⟨hj, ⟨hb, hnb⟩, hy, hny⟩, Bf, ⟨hf, hnf⟩, rfl⟩
    have hcA := hb.cell
    have hfA := hb.frozen
    have hcY := hy.cell
    have hcf0 : X.cell? ⟨Bf, 0, none⟩ = some (.int .u8 (x.2.1.toNat : Int)) := by simp [World.cell?, hf]
    have hcf1 : X.cell? ⟨Bf, 1, none⟩ = some (.string (Cd.bs x.2.2)) := by simp [World.cell?, hf]
    have hszX : W.heap.size + 3 ≤ X.heap.size := by have := hbd lr hRl; omega
    have HSP := Lib.hid hsp
    have hsp2 := hsub _ hsp
    rw [Fr.shift_snoc] at hsp2
    obtain ⟨fn, tmps, assign, body, hyy, hR⟩ := Sq.anyDepth rfl (n - 1 - 1 - 1) (hY (fun k => R k ∨ M k) (Fr.shift 0 pre) (Fr.lastEnd 0 pre, x.2) X hj (fun k h => h.elim (fun h => by have := hbd k h; omega) (fun h => by have := (hMm k).1 h; omega)) hsp2)
    have HR := Lib.hid hR
    clear hR hsp hsp2
    simp only [fEnc] at hyy
    have hdep : 1 ≤ n - 1 - 1 := by omega
    gi_wp2
    refine (Sq.round_in lr HR.out).mono ?_
    rintro e X3 (⟨rfl, hj3, hk3⟩ | ⟨rfl, hjx3, hk3⟩)
    · have hb3 := hk3.boxed (.inl (.inr ((hMm _).2 (by omega)))) hb
      have hy3 := hk3.boxed (.inl (.inr ((hMm _).2 (by omega)))) hy
      have hc3 := hb3.cell
      have hf3 := hb3.frozen
      gi_wp2
      refine ⟨(hk3.less ?_).trans (Sq.Kept.setCell _ _ ?_), ?_, ⟨?_, hnb⟩, ?_, hny⟩
      · rintro k (h | h) _
        · exact .inl (.inl h)
        · subst h; exact .inl (.inr ((hMm _).2 (by omega)))
      · rintro (h | h)
        · exact hnb h
        · simp at h
      · rw [Fr.shift_snoc]; exact hJ _ _ _ _ _ hj3 (Sq.Step.setCell _ _ (.inr ((hMm _).2 (by simp))))
      · rw [Fr.lastEnd_snoc]; exact hb3.set _
      · exact hy3.other (by omega) _
    · gi_wp2
      refine ⟨hk3.less ?_, ?_⟩
      · rintro k (h | h) _
        · exact .inl (.inl h)
        · subst h; exact .inl (.inr ((hMm _).2 (by omega)))
      · refine ⟨rfl, ?_⟩; show Jx _ (Fr.shift 0 (pre ++ [x])) _; rw [Fr.shift_snoc]; exact hjx3
  case done =>
    rintro D R ys X hD hRD rfl ⟨hj, _, _⟩ hdf
    gi_wp2
    refine ⟨by simp, .inl ⟨_, _, rfl, run_takeDeferred hdf, ?_⟩⟩
    refine ⟨_, results_none rfl _ _ _, ⟨_, rfl⟩, .inl ⟨_, _, ?_, hJ _ _ _ _ _ hj (Sq.Step.putObj _ _ (.inl hRD))⟩⟩
    rw [Fr.all, Fr.allGo_shift]
  case stop =>
    rintro D R c pre X hD hRD hsp ⟨rfl, hj⟩ hdf
    gi_wp2
    refine ⟨by simp, .inl ⟨_, _, rfl, run_takeDeferred hdf, ?_⟩⟩
    exact ⟨_, results_none rfl _ _ _, ⟨_, rfl⟩, .inr ⟨_, _, hsub _ hsp, hJx _ _ _ _ _ hj (Sq.Step.putObj _ _ (.inl hRD))⟩⟩
end Go.Proofs.Ytgbfaabidplajaa
