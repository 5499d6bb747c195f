import Derived.RegionTactic
import Derived.Sort.CutIn
import Derived.Test.YtaohipgfnnclhaaPart6
/-
  The law MergeCuts over what the program owes.
-/
namespace Go.Proofs.Ytaohipgfnnclhaa
open Go.RowKit Go.Shelf
set_option linter.unusedSimpArgs false
set_option linter.unusedVariables false
namespace Mg
open Mt (Ver VerIn verV)
open Vs (Vers At vcs)
open Tb (ver0)
attribute [local go_sem] Oper.semAt_some

/-- the body of the first range over a function in a code -/
def rangeBody9 : Code → Option Code
  | .rangeFunc _ _ _ b => some b
  | .loop c => rangeBody9 c
  | .seq a b => match rangeBody9 a with
    | some c => some c
    | none => rangeBody9 b
  | .block _ c => rangeBody9 c
  | .scope c => rangeBody9 c
  | .cond _ a b => match rangeBody9 a with
    | some c => some c
    | none => rangeBody9 b
  | _ => none
noncomputable def cutsBody : Code := ((Try.f6.body.bind rangeBody9).getD .skip)

/-- behind the copying of the first q versions of a list -/
structure LI (R T P0 Ow : Sq.Blocks) (b5 b6 b7 : Nat) (wv : Value) (all C : List Ver) (n cb co q : Nat) (W0 X0 X : World) : Prop where
  cs : ∃ u, CS R T b5 b6 b7 wv (all ++ C.take q) n u X ∧ ∀ g, u.ownBlock = some g → ¬ P0 g
  kept : Sq.Kept (fun k => (R k ∧ ¬ Ow k) ∨ T k) X0 X
  old : Sq.Kept P0 W0 X
  cell : ∀ j (h : j < C.length), q ≤ j → At X cb (co + j * 4) C[j]
  free : ∀ o, X.frozen? ⟨cb, o, none⟩ = false
  lt : cb < X.heap.size

theorem at_set_other {X : World} {b o o' : Nat} {x : Ver} {v : Value} (h : At X b o x) (hne : o' < o ∨ o + 4 ≤ o') : At (X.setCell ⟨b, o', none⟩ v) b o x := by
  obtain ⟨h0, h1, h2, h3⟩ := h
  exact ⟨(World.cell?_setCell_other _ _ _ _ (by intro e; injection e; omega)).trans h0, (World.cell?_setCell_other _ _ _ _ (by intro e; injection e; omega)).trans h1, (World.cell?_setCell_other _ _ _ _ (by intro e; injection e; omega)).trans h2, (World.cell?_setCell_other _ _ _ _ (by intro e; injection e; omega)).trans h3⟩

set_option maxRecDepth 1000000 in
set_option maxHeartbeats 2000000 in
theorem cuts_body (lr : Nat) (R T P0 Ow : Sq.Blocks) (pre : List Told) (x : Told) (I : Sq.Blocks → List Told → World → Prop) (Ix : Code → Sq.Blocks → List Told → World → Prop)
    (b4 b5 b6 b7 g5 c5 nw : Nat) (all C : List Ver) (n cb co ccap fb fo cap : Nat) (W0 X : World) (L : List Ver) (ps : List (Nat × Nat)) (u : Value) {v0 v1 v2 v3 v9 v10 v11 v12 v13 v14 v15 v16 v17 v18 v19 v20 v21 v22 v23 v24 v25 v26 v27 v28 v29 v30 v31 v32 v33 v34 v35 v36 v37 v38 v39 v40 v41 v42 v43 v44 v45 v46 v47 v48 v49 v50 v51 v52 v53 v54 v55 v56 v57 v58 v59 v60 v61 v62 v63 v64 v65 : Value}
    (h : CS R T b5 b6 b7 (.slice (some ⟨g5, 0, none⟩) ps.length c5) all n u X) (hR : ∀ k, R k → k < X.heap.size) (hT : ∀ k, T k → k < X.heap.size)
    (hP : Sq.Kept P0 W0 X) (hPR : ∀ k, P0 k → ¬ R k) (hP6 : ¬ P0 b6 ∧ ¬ P0 b7) (hPu : ∀ g, u.ownBlock = some g → ¬ P0 g)
    (hg5 : P0 g5) (hw : ∀ j (h : j < ps.length), W0.cell? ⟨g5, j, none⟩ = some (Tb.slc fb fo cap ps[j]))
    (hfb : P0 fb) (hfl : fb < W0.heap.size) (hL : ∀ j (h : j < L.length), At W0 fb (fo + j * 4) L[j]) (hn : n < ps.length) (hp1 : 1 ≤ (ps[n]'hn).2) (hp2 : (ps[n]'hn).1 + (ps[n]'hn).2 ≤ L.length) (hC : C = Tb.part L (ps[n]'hn)) (hCl : C.length ≤ 1048576) (hal : all.length + C.length ≤ 1048576) (hnl : n ≤ 1048576)
    (hOw : ∀ k, Ow k ↔ k = cb) (hRc : R cb) (hcl : cb < X.heap.size) (hcf : ∀ o, X.frozen? ⟨cb, o, none⟩ = false) (hcc : ∀ j (h : j < C.length), At X cb (co + j * 4) C[j]) (hne : C ≠ [])
    (hTR : ∀ k, T k → ¬ R k) (hP0 : ∀ k, P0 k → k < W0.heap.size)
    (hI : ∀ u' X', CS R T b5 b6 b7 (.slice (some ⟨g5, 0, none⟩) ps.length c5) (all ++ C) (n + 1) u' X' → (∀ g, u'.ownBlock = some g → ¬ P0 g) → Sq.Kept P0 W0 X' → I R (pre ++ [x]) X') :
    Code.wpIn (Fence.wide.inRound lr) 10 Try.prog cutsBody (Sq.postW Ow T I Ix R (pre ++ [x]) X) { tmps := #[v0, v1, v2, v3, .pointer (some ⟨b4, 0, none⟩), .pointer (some ⟨b5, 0, none⟩), .pointer (some ⟨b6, 0, none⟩), .pointer (some ⟨b7, 0, none⟩), .slice (some ⟨cb, co, none⟩) C.length ccap, v9, v10, v11, v12, v13, v14, v15, v16, v17, v18, v19, v20, v21, v22, v23, v24, v25, v26, v27, v28, v29, v30, v31, v32, v33, v34, v35, v36, v37, v38, v39, v40, v41, v42, v43, v44, v45, v46, v47, v48, v49, v50, v51, v52, v53, v54, v55, v56, v57, v58, v59, v60, v61, v62, v63, v64, v65], defers := [] } X := by
  conv => arg 4; whnf
  obtain ⟨c5', c6, c7, f6, f7, l5, l6, l7⟩ := h.cells
  have hps := hP.cell (p := ⟨g5, n, none⟩) hg5 (hw n hn)
  have hgl : g5 < X.heap.size := by
    obtain ⟨o, ho, _⟩ := cells_of_cell hps
    exact (Array.getElem?_eq_some_iff.1 ho).1
  have hLX : ∀ j (h : j < L.length), At X fb (fo + j * 4) L[j] := fun j hj => at_kept (hL j hj) hP hfb
  have hvp : Vers X.heap.size X (Tb.slc fb fo cap ps[n]) C := by rw [hC]; exact Tb.part_vers (a := some ⟨fb, fo, none⟩) (fun _ => ⟨rfl, Nat.lt_of_lt_of_le hfl hP.size⟩) hLX _ hp1 hp2
  have hvc : Vers X.heap.size X (.slice (some ⟨cb, co, none⟩) C.length ccap) C := ⟨_, _, cb, co, rfl, fun _ => ⟨rfl, hcl⟩, hcc⟩
  have HSM := Lib.hid (Mt.sameR_eq _ _ C X hvc hvp (by omega))
  have hC0 : ((C.length : Int) == 0) = false := by simpa using hne
  have hi1 : (0 : Int) ≤ (n : Int) ∧ (n : Int) < (ps.length : Int) := by omega
  have hge : ¬ (ps.length : Int) ≤ (n : Int) := by omega
  have H0 := Lib.hid h
  have HI := Lib.hid hI
  have HP := Lib.hid hP
  have HPU := Lib.hid hPu
  have HPR := Lib.hid hPR
  have HR := Lib.hid hR
  have HTT := Lib.hid hT
  have HTR := Lib.hid hTR
  have HP0 := Lib.hid hP0
  have HP6 := Lib.hid hP6
  have HRC := Lib.hid hRc
  have HOW := Lib.hid hOw
  have HCF := Lib.hid hcf
  have HCC := Lib.hid hcc
  obtain ⟨p, hp⟩ : ∃ p, ps[n] = p := ⟨_, rfl⟩
  rw [hp] at hps HSM
  unfold Tb.slc at hps HSM
  clear h hI hP hLX hvp hvc hw hL hp hPu hPR hR hT hOw hcf hcc hp1 hp2 hC hTR hP0 hP6 hRc
  gi_wp2_with (refine ⟨trivial, ?_⟩; gi_at_call 11; refine (CallsIn.inRound lr (callsIn_wide.2 HSM.out)).mono ?_; rintro e w1 ⟨rfl, hb1⟩; have HB1 := Lib.hid hb1)
  gi_loopw [10] (fun iv wr => ∃ q : Nat, q ≤ C.length ∧ iv = .int .i64 (q : Int) ∧ LI R T P0 Ow b5 b6 b7 (.slice (some ⟨g5, 0, none⟩) ps.length c5) all C n cb co q W0 X wr) (fun iv _ => C.length - (intOf iv).toNat)
  case atStart =>
    refine ⟨0, Nat.zero_le _, rfl, ⟨_, by rw [List.take_zero, List.append_nil]; exact H0.out.below HB1.out, HPU.out⟩, Sq.Kept.of_below HB1.out, HP.out.trans (Sq.Kept.of_below HB1.out), fun j hj _ => (HCC.out j hj).below HB1.out hcl, fun o => (World.frozen?_of_block (w := X) (HB1.out.block _ hcl)).trans (HCF.out o), Nat.lt_of_lt_of_le hcl HB1.out.size⟩
  case round =>
    obtain ⟨q, hq, rfl, hl⟩ := hrel
    obtain ⟨u1, hcs, hu1⟩ := hl.cs
    have HU1 := Lib.hid hu1
    clear hu1
    have HL := Lib.hid hl
    by_cases hlt : q < C.length
    · obtain ⟨e0, e1, e2, e3⟩ := hl.cell q hlt (Nat.le_refl _)
      obtain ⟨X1, hX1⟩ : ∃ X1, X1 = wr := ⟨_, rfl⟩
      rw [← hX1] at hl HL hcs e0 e1 e2 e3 ⊢
      clear hX1
      obtain ⟨ao, ucap, rfl, _⟩ := Sq.row_cases hcs.row
      obtain ⟨d5, d6, d7, df6, df7, dl5, dl6, dl7⟩ := hcs.cells
      have hlt1 := hl.lt
      have hlen : (all ++ C.take q).length ≤ 1048576 := by rw [List.length_append, List.length_take]; omega
      obtain ⟨j0, hj, hz0, hz1, hz2⟩ := info_parts info_Ver9
      have hR1 : ∀ k, R k → k < X1.heap.size := fun k hk => Nat.lt_of_lt_of_le (HR.out k hk) hl.kept.size
      have hT1 : ∀ k, T k → k < X1.heap.size := fun k hk => Nat.lt_of_lt_of_le (HTT.out k hk) hl.kept.size
      have HST := Lib.hid (show all ++ C.take (q + 1) = (all ++ C.take q) ++ [C[q]] by rw [List.take_succ_eq_append_getElem hlt, List.append_assoc])
      generalize all ++ C.take q = M at hcs hlen HST d6
      have hi2 : (0 : Int) ≤ (q : Int) ∧ (q : Int) < (C.length : Int) := by omega
      obtain ⟨xv, hxv⟩ : ∃ xv, C[q] = xv := ⟨_, rfl⟩
      rw [hxv] at e0 e1 e2 e3 HST
      clear hxv
      have hka : Sq.Kept (fun _ => True) X1 (X1.drew.alloc (.cells #[.string (Cd.bs xv.key), .int .u64 xv.seq, .bool xv.del, .string (Cd.bs xv.val)] 57)) := (Sq.Kept.drew _ _).trans (Sq.Kept.alloc _ _ _)
      have HPS := Lib.hid (fun w2 g cap2 hown hgrow (hat : (Value.slice ao M.length ucap).ownBlock = some g ∨ g = X1.heap.size + 1) => hcs.push (x := xv) hR1 hT1 (w2 := w2) (g := g) (cap2 := cap2) hka hown hgrow (by simpa using hat))
      have HROW := Lib.hid (Sq.row_kept hcs.row hka (fun _ _ => trivial))
      have hn6 := box_not_row hcs.x6 (by decide) hcs.row
      have HM6 := Lib.hid (fun w2 (hg : (X1.drew.alloc (.cells #[.string (Cd.bs xv.key), .int .u64 xv.seq, .bool xv.del, .string (Cd.bs xv.val)] 57)).grownBy w2 (Value.slice ao M.length ucap).ownBlock) => show w2.cell? ⟨b6, 0, none⟩ = some (.slice ao M.length ucap) ∧ w2.frozen? ⟨b6, 0, none⟩ = false ∧ b6 < w2.heap.size from
        have hb := (Sq.Kept.grown (T := fun k => k = b6) hg (fun r hr e => hn6 r hr e)).boxed rfl (hka.boxed trivial hcs.x6)
        ⟨hb.cell, hb.frozen, hb.lt⟩)
      have HB63 := Lib.hid (show M.length + 1 ≤ maxLen by unfold maxLen; omega)
      have HB48 := Lib.hid (show (M.length + 1) * 48 ≤ 140737488355328 by omega)
      have HCS := Lib.hid hcs
      have mixed : Try.prog.follows .mixedOrders = true := by kernel_rfl
      clear hl hcs hka hn6 hR1 hT1
      obtain ⟨k, sq, d, val⟩ := xv
      simp only at e0 e1 e2 e3 HPS HROW HM6
      gi_wp2_with fail
      gi_cut [] from 66 (fun wx => ∃ g cap2, CS R T b5 b6 b7 (.slice (some ⟨g5, 0, none⟩) ps.length c5) (M ++ [⟨k, sq, d, val⟩]) n (.slice (some ⟨g, 0, none⟩) (M.length + 1) cap2) wx ∧ Sq.Kept (fun k => k ≠ b6 ∧ ∀ r, (Value.slice ao M.length ucap).ownBlock = some r → k ≠ r) X1 wx ∧ ((Value.slice ao M.length ucap).ownBlock = some g ∨ X1.heap.size ≤ g))
      case first =>
        refine Qr.region_plain lr mixed (by kernel_rfl) (by rintro ⟨_, _, h⟩; exact h) ?_
        refine wpAny_take (i := 1) (v := .slice (some ⟨cb, co, none⟩) C.length ccap) rfl (by kernel_rfl) (by kernel_rfl) (by kernel_rfl) (fun _ _ _ h => h) (Or.inl ⟨by rfl, ?_⟩) ?_
        · intro w; go_simp
        refine wpAny_take (i := 2) (v := .int .i64 (q : Int)) rfl (by kernel_rfl) (by kernel_rfl) (by kernel_rfl) (fun _ _ _ h => h) (Or.inl ⟨by rfl, ?_⟩) ?_
        · intro w; go_simp
        refine wpAny_ready (rs := [0, 3]) (by kernel_rfl) (by simp) ?_
        refine AllReady.cons rfl (fun K hK => ?_) ?_
        · go_simp; refine hK _ _ ?_; clear hK K
          refine wpAny_ready (rs := [3]) (by kernel_rfl) (by simp) ?_
          refine AllReady.cons rfl (fun K hK => ?_) ?_
          · go_simp; refine hK _ _ ?_; clear hK K
            refine wpAny_ready (rs := [4]) (by kernel_rfl) (by simp) ?_
            refine AllReady.cons rfl (fun K hK => ?_) ?_
            · go_simp; refine hK _ _ ?_; clear hK K
              refine wpAny_ready (rs := [5]) (by kernel_rfl) (by simp) ?_
              refine AllReady.cons rfl (fun K hK => ?_) ?_
              · go_simp; refine hK _ _ ?_; clear hK K
                refine wpAny_ready (rs := [6]) (by kernel_rfl) (by simp) ?_
                refine AllReady.cons rfl (fun K hK => ?_) ?_
                · refine step_append_lies _ rfl _ _ 28 (by rfl) 0 57 j0 (.agg #[.string ⟨#[]⟩, .int .u64 0, .bool false, .string ⟨#[]⟩]) 4 48 Try.underlying28 hj hz0 hz1 hz2 rfl (by decide) (.slice ao M.length ucap) M.length (vcs M) (by rfl) HROW.out ⟨X1.heap.size, 0, none⟩ 1 1 [.string (Cd.bs k), .int .u64 sq, .bool d, .string (Cd.bs val)] (by rfl) (by rfl) (World.news_of_block (cs := #[.string (Cd.bs k), .int .u64 sq, .bool d, .string (Cd.bs val)]) (t := 57) (fr := (0, 0)) (heap_alloc_new X1.drew _)) (by simp [Value.oneCell']) (by omega) HB63.out HB48.out (Nat.zero_le _) (X1.heap.size + 1) (by simp) ?_
                  intro g cap2 w2 hown hgrow hat hlt2
                  refine hK _ _ ?_
                  clear hK K
                  have HPUSH := Lib.hid (HPS.out w2 g cap2 hown hgrow hat)
                  obtain ⟨m6, mf6, ml6⟩ := HM6.out w2 hgrow
                  have hgg : (Value.slice ao M.length ucap).ownBlock = some g ∨ X1.heap.size ≤ g := by
                    rcases hat with e | e
                    · exact .inl e
                    · exact .inr (by omega)
                  clear hown hgrow hat
                  refine wpAny_ready (rs := [7]) (by kernel_rfl) (by simp) ?_
                  refine AllReady.cons rfl (fun K hK => ?_) ?_
                  · go_simp; refine hK _ _ ?_; clear hK K
                    refine wpAny_done (by kernel_rfl) ?_ _
                    try gi_wp2_with fail
                    gi_meet
                    exact ⟨g, cap2, HPUSH.out.1, HPUSH.out.2, hgg⟩
                  exact AllReady.nil
                exact AllReady.nil
              exact AllReady.nil
            exact AllReady.nil
          exact AllReady.nil
        refine AllReady.cons rfl (fun K hK => ?_) ?_
        · go_simp; refine hK _ _ ?_; clear hK K
          refine wpAny_ready (rs := [0, 4]) (by kernel_rfl) (by simp) ?_
          refine AllReady.cons rfl (fun K hK => ?_) ?_
          · go_simp; refine hK _ _ ?_; clear hK K
            refine wpAny_ready (rs := [4]) (by kernel_rfl) (by simp) ?_
            refine AllReady.cons rfl (fun K hK => ?_) ?_
            · go_simp; refine hK _ _ ?_; clear hK K
              refine wpAny_ready (rs := [5]) (by kernel_rfl) (by simp) ?_
              refine AllReady.cons rfl (fun K hK => ?_) ?_
              · go_simp; refine hK _ _ ?_; clear hK K
                refine wpAny_ready (rs := [6]) (by kernel_rfl) (by simp) ?_
                refine AllReady.cons rfl (fun K hK => ?_) ?_
                · refine step_append_lies _ rfl _ _ 28 (by rfl) 0 57 j0 (.agg #[.string ⟨#[]⟩, .int .u64 0, .bool false, .string ⟨#[]⟩]) 4 48 Try.underlying28 hj hz0 hz1 hz2 rfl (by decide) (.slice ao M.length ucap) M.length (vcs M) (by rfl) HROW.out ⟨X1.heap.size, 0, none⟩ 1 1 [.string (Cd.bs k), .int .u64 sq, .bool d, .string (Cd.bs val)] (by rfl) (by rfl) (World.news_of_block (cs := #[.string (Cd.bs k), .int .u64 sq, .bool d, .string (Cd.bs val)]) (t := 57) (fr := (0, 0)) (heap_alloc_new X1.drew _)) (by simp [Value.oneCell']) (by omega) HB63.out HB48.out (Nat.zero_le _) (X1.heap.size + 1) (by simp) ?_
                  intro g cap2 w2 hown hgrow hat hlt2
                  refine hK _ _ ?_
                  clear hK K
                  have HPUSH := Lib.hid (HPS.out w2 g cap2 hown hgrow hat)
                  obtain ⟨m6, mf6, ml6⟩ := HM6.out w2 hgrow
                  have hgg : (Value.slice ao M.length ucap).ownBlock = some g ∨ X1.heap.size ≤ g := by
                    rcases hat with e | e
                    · exact .inl e
                    · exact .inr (by omega)
                  clear hown hgrow hat
                  refine wpAny_ready (rs := [7]) (by kernel_rfl) (by simp) ?_
                  refine AllReady.cons rfl (fun K hK => ?_) ?_
                  · go_simp; refine hK _ _ ?_; clear hK K
                    refine wpAny_done (by kernel_rfl) ?_ _
                    try gi_wp2_with fail
                    gi_meet
                    exact ⟨g, cap2, HPUSH.out.1, HPUSH.out.2, hgg⟩
                  exact AllReady.nil
                exact AllReady.nil
              exact AllReady.nil
            exact AllReady.nil
          refine AllReady.cons rfl (fun K hK => ?_) ?_
          · go_simp; refine hK _ _ ?_; clear hK K
            refine wpAny_ready (rs := [0, 5]) (by kernel_rfl) (by simp) ?_
            refine AllReady.cons rfl (fun K hK => ?_) ?_
            · go_simp; refine hK _ _ ?_; clear hK K
              refine wpAny_ready (rs := [5]) (by kernel_rfl) (by simp) ?_
              refine AllReady.cons rfl (fun K hK => ?_) ?_
              · go_simp; refine hK _ _ ?_; clear hK K
                refine wpAny_ready (rs := [6]) (by kernel_rfl) (by simp) ?_
                refine AllReady.cons rfl (fun K hK => ?_) ?_
                · refine step_append_lies _ rfl _ _ 28 (by rfl) 0 57 j0 (.agg #[.string ⟨#[]⟩, .int .u64 0, .bool false, .string ⟨#[]⟩]) 4 48 Try.underlying28 hj hz0 hz1 hz2 rfl (by decide) (.slice ao M.length ucap) M.length (vcs M) (by rfl) HROW.out ⟨X1.heap.size, 0, none⟩ 1 1 [.string (Cd.bs k), .int .u64 sq, .bool d, .string (Cd.bs val)] (by rfl) (by rfl) (World.news_of_block (cs := #[.string (Cd.bs k), .int .u64 sq, .bool d, .string (Cd.bs val)]) (t := 57) (fr := (0, 0)) (heap_alloc_new X1.drew _)) (by simp [Value.oneCell']) (by omega) HB63.out HB48.out (Nat.zero_le _) (X1.heap.size + 1) (by simp) ?_
                  intro g cap2 w2 hown hgrow hat hlt2
                  refine hK _ _ ?_
                  clear hK K
                  have HPUSH := Lib.hid (HPS.out w2 g cap2 hown hgrow hat)
                  obtain ⟨m6, mf6, ml6⟩ := HM6.out w2 hgrow
                  have hgg : (Value.slice ao M.length ucap).ownBlock = some g ∨ X1.heap.size ≤ g := by
                    rcases hat with e | e
                    · exact .inl e
                    · exact .inr (by omega)
                  clear hown hgrow hat
                  refine wpAny_ready (rs := [7]) (by kernel_rfl) (by simp) ?_
                  refine AllReady.cons rfl (fun K hK => ?_) ?_
                  · go_simp; refine hK _ _ ?_; clear hK K
                    refine wpAny_done (by kernel_rfl) ?_ _
                    try gi_wp2_with fail
                    gi_meet
                    exact ⟨g, cap2, HPUSH.out.1, HPUSH.out.2, hgg⟩
                  exact AllReady.nil
                exact AllReady.nil
              exact AllReady.nil
            refine AllReady.cons rfl (fun K hK => ?_) ?_
            · go_simp; refine hK _ _ ?_; clear hK K
              refine wpAny_ready (rs := [0]) (by kernel_rfl) (by simp) ?_
              refine AllReady.cons rfl (fun K hK => ?_) ?_
              · go_simp; refine hK _ _ ?_; clear hK K
                refine wpAny_ready (rs := [6]) (by kernel_rfl) (by simp) ?_
                refine AllReady.cons rfl (fun K hK => ?_) ?_
                · refine step_append_lies _ rfl _ _ 28 (by rfl) 0 57 j0 (.agg #[.string ⟨#[]⟩, .int .u64 0, .bool false, .string ⟨#[]⟩]) 4 48 Try.underlying28 hj hz0 hz1 hz2 rfl (by decide) (.slice ao M.length ucap) M.length (vcs M) (by rfl) HROW.out ⟨X1.heap.size, 0, none⟩ 1 1 [.string (Cd.bs k), .int .u64 sq, .bool d, .string (Cd.bs val)] (by rfl) (by rfl) (World.news_of_block (cs := #[.string (Cd.bs k), .int .u64 sq, .bool d, .string (Cd.bs val)]) (t := 57) (fr := (0, 0)) (heap_alloc_new X1.drew _)) (by simp [Value.oneCell']) (by omega) HB63.out HB48.out (Nat.zero_le _) (X1.heap.size + 1) (by simp) ?_
                  intro g cap2 w2 hown hgrow hat hlt2
                  refine hK _ _ ?_
                  clear hK K
                  have HPUSH := Lib.hid (HPS.out w2 g cap2 hown hgrow hat)
                  obtain ⟨m6, mf6, ml6⟩ := HM6.out w2 hgrow
                  have hgg : (Value.slice ao M.length ucap).ownBlock = some g ∨ X1.heap.size ≤ g := by
                    rcases hat with e | e
                    · exact .inl e
                    · exact .inr (by omega)
                  clear hown hgrow hat
                  refine wpAny_ready (rs := [7]) (by kernel_rfl) (by simp) ?_
                  refine AllReady.cons rfl (fun K hK => ?_) ?_
                  · go_simp; refine hK _ _ ?_; clear hK K
                    refine wpAny_done (by kernel_rfl) ?_ _
                    try gi_wp2_with fail
                    gi_meet
                    exact ⟨g, cap2, HPUSH.out.1, HPUSH.out.2, hgg⟩
                  exact AllReady.nil
                exact AllReady.nil
              exact AllReady.nil
            exact AllReady.nil
          exact AllReady.nil
        exact AllReady.nil
      case rest =>
        obtain ⟨g, cap2, hcs2, hk2, hgg⟩ := hcut
        have hown0 : ∀ r, (Value.slice ao M.length ucap).ownBlock = some r → ¬ R r ∧ ¬ T r := HCS.out.own
        have hcb : cb ≠ b6 ∧ ∀ r, (Value.slice ao M.length ucap).ownBlock = some r → cb ≠ r := ⟨fun e => HCS.out.r6.1 (e ▸ HRC.out), fun r hr e => (hown0 r hr).1 (e ▸ HRC.out)⟩
        have d0 := hk2.cell (p := ⟨cb, co + q * 4, none⟩) hcb e0
        have hfz : wc.frozen? ⟨cb, co + q * 4, none⟩ = false := (World.frozen?_of_block (w := X1) (hk2.block _ hcb HL.out.lt)).trans (HL.out.free _)
        have HN : LI R T P0 Ow b5 b6 b7 (.slice (some ⟨g5, 0, none⟩) ps.length c5) all C n cb co (q + 1) W0 X (wc.setCell ⟨cb, co + q * 4, none⟩ (.string ⟨#[63]⟩)) := by
          have hk3 : Sq.Kept (fun k => k ≠ cb) wc (wc.setCell ⟨cb, co + q * 4, none⟩ (.string ⟨#[63]⟩)) := Sq.Kept.setCell _ _ (by simp)
          have hu2 : ∀ r, (Value.slice ao M.length ucap).ownBlock = some r → ¬ P0 r := by
            intro r hr
            refine HU1.out r ?_
            cases ao with
            | none => simp [Value.ownBlock] at hr
            | some a => exact hr
          have hl := HL.out
          have hTcb : ¬ T cb := fun h => HTR.out _ h HRC.out
          have hRk : ∀ k, (R k ∧ ¬ Ow k) ∨ T k → (k ≠ b6 ∧ ∀ r, (Value.slice ao M.length ucap).ownBlock = some r → k ≠ r) ∧ k ≠ cb := by
            rintro k (⟨h1, h2⟩ | h1)
            · exact ⟨⟨fun e => HCS.out.r6.1 (e ▸ h1), fun r hr e => (hown0 r hr).1 (e ▸ h1)⟩, fun e => h2 ((HOW.out k).2 e)⟩
            · exact ⟨⟨fun e => HCS.out.r6.2 (e ▸ h1), fun r hr e => (hown0 r hr).2 (e ▸ h1)⟩, fun e => hTcb (e ▸ h1)⟩
          have hPk : ∀ k, P0 k → (k ≠ b6 ∧ ∀ r, (Value.slice ao M.length ucap).ownBlock = some r → k ≠ r) ∧ k ≠ cb := fun k hk =>
            ⟨⟨fun e => HP6.out.1 (e ▸ hk), fun r hr e => hu2 r hr (e ▸ hk)⟩, fun e => HPR.out k hk (e ▸ HRC.out)⟩
          refine ⟨⟨_, by rw [HST.out]; exact hcs2.kept (K := fun k => k ≠ cb) hk3 (fun e => hcs2.r5.1 (e ▸ HRC.out)) (fun e => hcs2.r6.1 (e ▸ HRC.out)) (fun e => hcs2.r7.1 (e ▸ HRC.out)) (fun g hg e => (hcs2.own g hg).1 (e ▸ HRC.out)), fun g' hg' => ?_⟩, (hl.kept.trans (hk2.less fun k hk _ => (hRk k hk).1)).trans (hk3.less fun k hk _ => (hRk k hk).2), (hl.old.trans (hk2.less fun k hk _ => (hPk k hk).1)).trans (hk3.less fun k hk _ => (hPk k hk).2), fun j hj hqj => ?_, fun o => ?_, ?_⟩
          · obtain rfl : g = g' := by simpa [Value.ownBlock] using hg'
            rcases hgg with e | e
            · exact hu2 g e
            · exact fun hk => by have := HP0.out g hk; have := hl.old.size; omega
          · exact at_set_other (at_kept (hl.cell j hj (by omega)) hk2 hcb) (by omega)
          · rw [World.frozen?_setCell]
            exact (World.frozen?_of_block (w := X1) (hk2.block _ hcb hl.lt)).trans (hl.free _)
          · have := hk2.size
            have := hl.lt
            simp
            omega
        have HN := Lib.hid HN
        clear hcs2 hk2 hgg hown0 hcb
        gi_wp2_with fail
        go_roundw
        case rel => exact ⟨q + 1, by omega, by go_num, HN.out⟩
        case measure => simp [intOf]; omega
    · obtain rfl : q = C.length := by omega
      rw [List.take_length] at hcs
      clear hl
      obtain ⟨d5, d6, d7, df6, df7, dl5, dl6, dl7⟩ := hcs.cells
      have HCS := Lib.hid hcs
      clear hcs
      gi_wp2_with fail
      obtain ⟨hs7, hk7⟩ := HCS.out.set7 ((n : Int) + 1) (n + 1) (by omega)
      refine ⟨HL.out.kept.trans (hk7.less fun k hk _ e => ?_), HI.out _ _ hs7 HU1.out (HL.out.old.trans (hk7.less fun k hk _ e => HP6.out.2 (e ▸ hk)))⟩
      rcases hk with ⟨h1, h2⟩ | h1
      · exact HCS.out.r7.1 (e ▸ h1)
      · exact HCS.out.r7.2 (e ▸ h1)
end Mg
end Go.Proofs.Ytaohipgfnnclhaa

/-
  The program's merge: Cut.
-/
namespace Go.Proofs.Ytaohipgfnnclhaa
open Go.RowKit Go.Shelf
set_option linter.unusedSimpArgs false
set_option linter.unusedVariables false
namespace Mg
open Mt (Ver mayB lessB placeB VerIn verV)
open Vs (Vers At vcs)
open Tb (ver0 getD_at own_after lower_row)
attribute [local go_sem] Oper.semAt_some

/-- what is private to Cut's range: the range's own blocks that are there, Cut's boxes, the rows -/
abbrev ctR (M G R : Sq.Blocks) (X : World) : Sq.Blocks := fun k => (R k ∧ k < X.heap.size) ∨ (M k ∨ G k)
theorem ctR_step {M G R R' : Sq.Blocks} {X X' : World} (st : Sq.Step R R' X X') : Sq.Step (ctR M G R X) (ctR M G R' X') X X' :=
  ⟨⟨st.kept.os, st.kept.tape, st.kept.output, st.kept.size, fun k hk hl => st.kept.block k (fun h => hk (.inl ⟨h, hl⟩)) hl⟩,
    fun k h => h.elim (fun h => .inl ⟨st.sub k h.1, Nat.lt_of_lt_of_le h.2 st.kept.size⟩) .inr,
    fun k h => h.elim (fun h => (st.new k h.1).elim (fun h2 => (Nat.lt_or_ge k X.heap.size).elim (fun h3 => .inl (.inl ⟨h2, h3⟩)) .inr) .inr) (fun h => .inl (.inr h))⟩
/-- between the rounds -/
structure CtS (L : List Ver) (b : Int) (J : Sq.Blocks → List Told → World → Prop) (M : Sq.Blocks) (W : World) (lp bb : Nat) (G : Sq.Blocks) (u : Value) (ts : List Told) (R : Sq.Blocks) (k : Nat) (X : World) : Prop where
  tl : ts.map (·.l) = tld b L k
  j : J (ctR M G R X) ts X
  l : Boxed X (W.heap.size + 1) 28 u ∧ ¬ R (W.heap.size + 1)
  s : Boxed X (W.heap.size + 2) 3 (.int .i64 (bytes (lst b L k) : Nat)) ∧ ¬ R (W.heap.size + 2)
  y : Boxed X W.heap.size 91 (.func (.yield lp) #[] #[]) ∧ ¬ R W.heap.size
  bx : Boxed X bb 3 (.int .i64 b) ∧ ¬ R bb
  r : X.ownsRow (W.heap.size + 4) 57 4 u (lst b L k).length (vcs (lst b L k)) ∧ ∀ g, u.ownBlock = some g → ¬ R g
  g : ∀ g, u.ownBlock = some g → G g
  gl : ∀ k, G k → W.heap.size + 4 ≤ k ∧ k < X.heap.size ∧ ¬ R k
  size : W.heap.size + 4 ≤ X.heap.size
  lo : ∀ k, R k → W.heap.size ≤ k
theorem CtS.step {L : List Ver} {b : Int} {J : Sq.Blocks → List Told → World → Prop} {M : Sq.Blocks} {W : World} {lp bb : Nat} {G : Sq.Blocks} {u : Value} {ts : List Told} {R R' : Sq.Blocks} {k : Nat} {X X' : World} (hJ : Sq.Steady J)
    (h : CtS L b J M W lp bb G u ts R k X) (st : Sq.Step R R' X X') : CtS L b J M W lp bb G u ts R' k X' :=
  ⟨h.tl, hJ _ _ _ _ _ h.j (ctR_step st), Sq.step_obj st h.l.1 h.l.2, Sq.step_obj st h.s.1 h.s.2, Sq.step_obj st h.y.1 h.y.2, Sq.step_obj st h.bx.1 h.bx.2,
    Sq.Steady.row (β := Unit) _ _ _ (fun _ => u) (fun _ => (lst b L k).length) (fun _ => vcs (lst b L k)) R R' () X X' h.r st, h.g,
    fun k hk => ⟨(h.gl k hk).1, Nat.lt_of_lt_of_le (h.gl k hk).2.1 st.kept.size, Sq.step_not st (h.gl k hk).2.1 (h.gl k hk).2.2⟩, Nat.le_trans h.size st.kept.size,
    fun k hk => (st.new k hk).elim (h.lo k) (fun h2 => by have := h.size; omega)⟩
def CtI (L : List Ver) (b : Int) (J : Sq.Blocks → List Told → World → Prop) (M : Sq.Blocks) (W : World) (lp bb : Nat) (R : Sq.Blocks) (pre : List (Ver × Bool)) (X : World) : Prop := ∃ G u ts, CtS L b J M W lp bb G u ts R pre.length X
/-- at a round's beginning -/
def CtA (L : List Ver) (b : Int) (J : Sq.Blocks → List Told → World → Prop) (M : Sq.Blocks) (W : World) (lp bb : Nat) (fr : Nat → Act) (a' : Act) (x : Ver × Bool) (R : Sq.Blocks) (pre : List (Ver × Bool)) (X : World) : Prop :=
  ∃ G u ts Bf, CtS L b J M W lp bb G u ts R pre.length X ∧ (Ob.Obj X Bf 57 [.string (Cd.bs x.1.key), .int .u64 x.1.seq, .bool x.1.del, .string (Cd.bs x.1.val)] ∧ G Bf ∧ ∀ r, u.ownBlock = some r → Bf ≠ r) ∧ a' = fr Bf
theorem CtA.steady {L : List Ver} {b : Int} {J : Sq.Blocks → List Told → World → Prop} {M : Sq.Blocks} {W : World} {lp bb : Nat} {fr : Nat → Act} {a' : Act} {x : Ver × Bool} (hJ : Sq.Steady J) : Sq.Steady (CtA L b J M W lp bb fr a' x) :=
  fun R R' s X X' ⟨G, u, ts, Bf, h, hf, ha⟩ st => ⟨G, u, ts, Bf, h.step hJ st, ⟨(Sq.step_obj st hf.1 (h.gl _ hf.2.1).2.2).1, hf.2⟩, ha⟩
/-- what Cut closes over -/
abbrev ctT (bs bb : Nat) (T : Sq.Blocks) : Sq.Blocks := fun k => (k = bs ∨ k = bb) ∨ T k
/-- the list at hand may be handed over -/
theorem ct_fx {X : World} {B : Nat} {ao : Option Addr} {cap : Nat} {l : List Ver} {R : Sq.Blocks} (h : X.ownsRow B 57 4 (.slice ao l.length cap) l.length (vcs l)) (hR : ∀ g, (Value.slice ao l.length cap).ownBlock = some g → R g) :
    ∃ fb, (∀ g, l ≠ [] → (Value.slice ao l.length cap).ownBlock = some g → g = fb) ∧ (l ≠ [] → (Value.slice ao l.length cap).ownBlock = some fb) ∧ CFx ⟨ao, cap, fb, 0, l⟩ R X := by
  have hv := Vs.vers_of_own h
  rcases h with ⟨h0, h1 | ⟨g, cap', cur, h1, h2, h3, h4⟩⟩
  · refine ⟨0, fun g hl _ => absurd (List.eq_nil_of_length_eq_zero h1.2) hl, fun hl => absurd (List.eq_nil_of_length_eq_zero h1.2) hl, fun hl => absurd (List.eq_nil_of_length_eq_zero h1.2) hl⟩
  · injection h1 with e1 e2 e3
    subst e1 e3
    refine ⟨g, fun g' _ hg' => by simpa [Value.ownBlock] using hg'.symm, fun _ => rfl, fun hl => ⟨rfl, hR g rfl, (Array.getElem?_eq_some_iff.1 h3).1, fun o => by simp [World.frozen?, h3], fun j hj => ?_⟩⟩
    obtain ⟨a', cap'', fb, fo, e, ha, hc⟩ := hv
    injection e with e1 e2 e3
    have hj' : j < l.length := hj
    obtain ⟨e4, _⟩ := ha (by omega)
    rw [← e1] at e4
    injection e4 with e4
    injection e4 with e5 e6 e7
    subst e5 e6
    have := hc j hj
    simpa using this

/-- what a yield of memory answers, the two ways as one -/
structure YW {α : Type} (J Jx : Sq.Blocks → List α → World → Prop) (R T Ow : Sq.Blocks) (p : List α) (W1 : World) (b : Bool) (W' : World) : Prop where
  on : b = true → J R p W'
  off : b = false → Jx R p W'
  kept : Sq.Kept (fun k => (R k ∧ ¬ Ow k) ∨ T k) W1 W'
theorem yw_of {α : Type} {J Jx : Sq.Blocks → List α → World → Prop} {R T Ow : Sq.Blocks} {p : List α} {W1 W' : World} {e : Ending}
    (h : (e = .returned (.bool true) ∧ J R p W' ∧ Sq.Kept (fun k => (R k ∧ ¬ Ow k) ∨ T k) W1 W') ∨ (e = .returned (.bool false) ∧ Jx R p W' ∧ Sq.Kept (fun k => (R k ∧ ¬ Ow k) ∨ T k) W1 W')) : ∃ b : Bool, e = .returned (.bool b) ∧ YW J Jx R T Ow p W1 b W' := by
  rcases h with ⟨rfl, h1, h2⟩ | ⟨rfl, h1, h2⟩
  · exact ⟨true, rfl, fun _ => h1, fun h => (by cases h), h2⟩
  · exact ⟨false, rfl, fun h => (by cases h), fun _ => h1, h2⟩
/-- a block more is Cut's own -/
theorem CtS.alloc {L : List Ver} {b : Int} {J : Sq.Blocks → List Told → World → Prop} {M : Sq.Blocks} {W : World} {lp bb : Nat} {G : Sq.Blocks} {u : Value} {ts : List Told} {R : Sq.Blocks} {k : Nat} {X : World} (hJ : Sq.Steady J)
    (h : CtS L b J M W lp bb G u ts R k X) (hbd : ∀ k, R k → k < X.heap.size) (o : Obj) : CtS L b J M W lp bb (fun j => G j ∨ j = X.heap.size) u ts R k (X.alloc o) := by
  have h2 := h.step hJ (Sq.Step.alloc0 R X o)
  refine ⟨h.tl, ?_, h2.l, h2.s, h2.y, h2.bx, h2.r, fun g hg => .inl (h.g g hg), ?_, h2.size, h.lo⟩
  · refine hJ _ _ _ _ _ h.j ⟨Sq.Kept.alloc _ _ _, ?_, ?_⟩
    · rintro k (h | h | h)
      · exact .inl ⟨h.1, by simp; omega⟩
      · exact .inr (.inl h)
      · exact .inr (.inr (.inl h))
    · rintro k (h | h | h | h)
      · exact .inl (.inl ⟨h.1, hbd k h.1⟩)
      · exact .inl (.inr (.inl h))
      · exact .inl (.inr (.inr h))
      · exact .inr (by omega)
  · rintro k (hk | hk)
    · exact h2.gl k hk
    · subst hk
      exact ⟨h.size, by simp, fun hr => by have := hbd _ hr; omega⟩
/-- one version goes to the list at hand -/
theorem ct_next {L : List Ver} {b : Int} {J : Sq.Blocks → List Told → World → Prop} {M T : Sq.Blocks} {W : World} {lp bb : Nat} {G : Sq.Blocks} {u2 : Value} {ts2 : List Told} {R : Sq.Blocks} {k : Nat} {X2 X1 X3 : World} {l2 : List Ver} {x : Ver} {V V0 : Value} {g cap : Nat}
    (hJ : Sq.Steady J) (hMm : ∀ k, M k ↔ W.heap.size ≤ k ∧ k < W.heap.size + 4) (hT : ∀ k, T k → k < W.heap.size) (hbw : bb < W.heap.size)
    (htl : ts2.map (·.l) = tld b L (k + 1)) (hls : lst b L (k + 1) = l2 ++ [x]) (hj : J (ctR M G R X2) ts2 X2)
    (hl : Boxed X2 (W.heap.size + 1) 28 u2 ∧ ¬ R (W.heap.size + 1)) (hs : Boxed X2 (W.heap.size + 2) 3 V0 ∧ ¬ R (W.heap.size + 2))
    (hy : Boxed X2 W.heap.size 91 (.func (.yield lp) #[] #[]) ∧ ¬ R W.heap.size) (hbx : Boxed X2 bb 3 (.int .i64 b) ∧ ¬ R bb)
    (hrow : X2.ownsRow (W.heap.size + 4) 57 4 u2 l2.length (vcs l2)) (hrn : ∀ g, u2.ownBlock = some g → ¬ R g) (hg : ∀ g, u2.ownBlock = some g → G g)
    (hgl : ∀ k, G k → W.heap.size + 4 ≤ k ∧ k < X2.heap.size ∧ ¬ R k) (hsz : W.heap.size + 4 ≤ X2.heap.size) (hlo : ∀ k, R k → W.heap.size ≤ k) (hbd : ∀ k, R k → k < X2.heap.size)
    (hX1 : Sq.Kept (fun _ => True) X2 X1) (hs1 : X1.heap.size = X2.heap.size + 1)
    (hown : X3.ownsRow (W.heap.size + 4) 57 4 (.slice (some ⟨g, 0, none⟩) (l2.length + 1) cap) (l2.length + 1) (vcs l2 ++ [.string (Cd.bs x.key), .int .u64 x.seq, .bool x.del, .string (Cd.bs x.val)]))
    (hgrow : X1.grownBy X3 u2.ownBlock) (hat : u2.ownBlock = some g ∨ g = X2.heap.size + 1) :
    (Boxed X3 (W.heap.size + 1) 28 u2 ∧ Boxed X3 (W.heap.size + 2) 3 V0 ∧ (∀ (Bf : Nat) (cs : List Value), Ob.Obj X2 Bf 57 cs → (∀ r, u2.ownBlock = some r → Bf ≠ r) → Ob.Obj X3 Bf 57 cs)) ∧
    (V = .int .i64 (bytes (l2 ++ [x]) : Nat) →
      CtS L b J M W lp bb (fun k => G k ∨ k = g) (.slice (some ⟨g, 0, none⟩) (l2.length + 1) cap) ts2 R (k + 1) ((X3.setCell ⟨W.heap.size + 1, 0, none⟩ (.slice (some ⟨g, 0, none⟩) (l2.length + 1) cap)).setCell ⟨W.heap.size + 2, 0, none⟩ V) ∧
      Sq.Kept (fun k => R k ∨ (k = W.heap.size + 3 ∨ T k)) X2 ((X3.setCell ⟨W.heap.size + 1, 0, none⟩ (.slice (some ⟨g, 0, none⟩) (l2.length + 1) cap)).setCell ⟨W.heap.size + 2, 0, none⟩ V)) := by
  have hge : ∀ r, u2.ownBlock = some r → W.heap.size + 4 ≤ r := fun r hr => (Ob.row_lt hrow hr).1
  have hKg : Sq.Kept (fun k => ∀ r, u2.ownBlock = some r → k ≠ r) X1 X3 := Sq.Kept.grown hgrow (fun r hr h => h r hr rfl)
  have hK2 : Sq.Kept (fun k => ∀ r, u2.ownBlock = some r → k ≠ r) X2 X3 := (hX1.less (fun _ _ _ => trivial)).trans hKg
  have hlow : ∀ k, k < W.heap.size + 4 → ∀ r, u2.ownBlock = some r → k ≠ r := fun k hk r hr e => by have := hge r hr; omega
  have hl3 : Boxed X3 (W.heap.size + 1) 28 u2 := hK2.boxed (hlow _ (by omega)) hl.1
  have hs3 : Boxed X3 (W.heap.size + 2) 3 V0 := hK2.boxed (hlow _ (by omega)) hs.1
  have hy3 : Boxed X3 W.heap.size 91 (.func (.yield lp) #[] #[]) := hK2.boxed (hlow _ (by omega)) hy.1
  have hb3 : Boxed X3 bb 3 (.int .i64 b) := hK2.boxed (hlow _ (by omega)) hbx.1
  have hg4 : W.heap.size + 4 ≤ g := by
    rcases hat with h | h
    · exact hge g h
    · omega
  have hng : ¬ R g := by
    rcases hat with h | h
    · exact hrn g h
    · intro hr; have := hbd g hr; omega
  have hgX : g < X3.heap.size := by
    rcases hown with ⟨_, h | ⟨g', _, _, h1, _, h3, _⟩⟩
    · simp at h
    · injection h1 with h1 _ _
      injection h1 with h1
      injection h1 with h1 _
      subst h1
      exact (Array.getElem?_eq_some_iff.1 h3).1
  refine ⟨⟨hl3, hs3, fun Bf cs ho hn => ho.kept hK2 hn⟩, fun hV => ⟨⟨htl, ?_, ⟨(hl3.set _).other (by simp) _, hl.2⟩, ⟨?_, hs.2⟩, ⟨(hy3.other (by simp) _).other (by simp) _, hy.2⟩, ⟨(hb3.other (by simp; omega) _).other (by simp; omega) _, hbx.2⟩, ⟨?_, ?_⟩, ?_, ?_, ?_, hlo⟩, ?_⟩⟩
  · refine hJ _ _ _ _ _ hj ⟨?_, ?_, ?_⟩
    · refine ((hK2.less (fun k hk hl' r hr e => hk (.inr (.inr (e ▸ hg r hr))))).trans (Sq.Kept.setCell _ _ (fun h => h (.inr (.inl ((hMm _).2 (by simp))))))).trans (Sq.Kept.setCell _ _ (fun h => h (.inr (.inl ((hMm _).2 (by simp))))))
    · rintro k (h | h | h)
      · exact .inl ⟨h.1, by have := hK2.size; simp; omega⟩
      · exact .inr (.inl h)
      · exact .inr (.inr (.inl h))
    · rintro k (h | h | h | h)
      · exact .inl (.inl ⟨h.1, hbd k h.1⟩)
      · exact .inl (.inr (.inl h))
      · exact .inl (.inr (.inr h))
      · subst h
        rcases hat with h | h
        · exact .inl (.inr (.inr (hg _ h)))
        · exact .inr (by omega)
  · rw [hls, ← hV]
    exact (Boxed.other hs3 (by simp) _).set _
  · rw [hls, List.length_append, List.length_singleton, Vs.vcs_snoc]
    refine Ob.row_other (Ob.row_other hown (fun e => ?_) _) (fun e => ?_) _
    · have := (Ob.row_lt hown e).1; have h9 : W.heap.size + 4 ≤ W.heap.size + 1 := this; omega
    · have := (Ob.row_lt hown e).1; have h9 : W.heap.size + 4 ≤ W.heap.size + 2 := this; omega
  · intro r hr
    obtain rfl : g = r := by simpa [Value.ownBlock] using hr
    exact hng
  · intro r hr
    obtain rfl : g = r := by simpa [Value.ownBlock] using hr
    exact .inr rfl
  · rintro k (h | h)
    · have := hgl k h
      refine ⟨this.1, ?_, this.2.2⟩
      have := hK2.size
      simp; omega
    · subst h
      exact ⟨hg4, by simpa using hgX, hng⟩
  · have := hK2.size
    simp; omega
  · refine ((hK2.less ?_).trans (Sq.Kept.setCell _ _ ?_)).trans (Sq.Kept.setCell _ _ ?_)
    · rintro k (h | h | h) _ r hr e
      · exact hrn r hr (e ▸ h)
      · have := hge r hr; omega
      · have := hT k h; have := hge r hr; omega
    · rintro (h | h | h)
      · exact hl.2 h
      · simp at h
      · have := hT _ h; simp at this; omega
    · rintro (h | h | h)
      · exact hs.2 h
      · simp at h
      · have := hT _ h; simp at this; omega

set_option maxRecDepth 100000 in
set_option maxHeartbeats 8000000 in
/-- CUT TELLS THE LISTS. -/
theorem cut1_seq (n : Nat) (hn : 11 ≤ n) (sv : Value) (L : List Ver) (T : Sq.Blocks) (hL : ∀ x ∈ L, VerIn x) (hmany : L.length ≤ 1048576) (b : Int) (hb0 : -9223372036854775808 ≤ b ∧ b ≤ 9223372036854775807) (bs bb : Nat) (w : World) (hCs : Boxed w bs 26 sv) (hCb : Boxed w bb 3 (.int .i64 b)) (hT : Tells w sv L T) :
    Sq.SeqW Fence.wide n Try.prog 43 #[.pointer (some ⟨bs, 0, none⟩), .pointer (some ⟨bb, 0, none⟩)] cEnc9 CFx COwn (ctT bs bb T) (fun ys => ys.map (·.l) = cutLs L b) (fun pre => pre.map (·.l) <+: cutLs L b) w := by
  intro lp J Jx W hW hJ hJx hY h0
  have hCWs := hW.boxed (.inl (.inl rfl)) hCs
  have hCWb := hW.boxed (.inl (.inr rfl)) hCb
  obtain ⟨gf, lb, rfl⟩ : ∃ gf lb, sv = .func (.func gf) #[] lb := by obtain ⟨gf, lb, h, _⟩ := hT; exact ⟨gf, lb, h⟩
  have HTW := Lib.hid (hT.kept (hW.less fun k h _ => .inr h))
  have HY := Lib.hid (fun R pre x W1 h1 h2 h3 h4 => (hY R pre x W1 h1 h2 h3 h4))
  clear hY hT
  have hn1 : 1 ≤ n := by omega
  have l1 := hCWs.lt
  have l2 := hCWb.lt
  refine callsIn_of_wp_marks Try.func43 rfl trivial ?_ rfl
  simp only [Try.ntmps43, List.size_toArray, List.length_cons, List.length_nil, Nat.reduceAdd, Nat.reduceSub, Array.replicate_succ, Array.replicate_zero, List.push_toArray, List.append_toArray, List.nil_append, List.cons_append]
  gi_upto_region 3 with fail
  obtain ⟨W9, hW9⟩ : ∃ W9, ((W.alloc (.cells #[.func (.yield lp) #[] #[]] 91)).alloc (.cells #[.slice none 0 0] 28)).alloc (.cells #[.int .i64 0] 3) = W9 := ⟨_, rfl⟩
  have hcB9 : W9.cell? ⟨bs, 0, none⟩ = some (.func (.func gf) #[] lb) := by rw [← hW9]; exact (((hCWs.alloc _).alloc _).alloc _).cell
  have bY : Boxed W9 W.heap.size 91 (.func (.yield lp) #[] #[]) := by rw [← hW9]; exact ((Boxed.new W _ _).alloc _).alloc _
  have bA : Boxed W9 (W.heap.size + 1) 28 (.slice none 0 0) := by
    rw [← hW9]; have := Boxed.new (W.alloc (.cells #[.func (.yield lp) #[] #[]] 91)) 28 (.slice none 0 0)
    rw [World.size_alloc] at this; exact this.alloc _
  have bZ : Boxed W9 (W.heap.size + 2) 3 (.int .i64 0) := by
    rw [← hW9]; have := Boxed.new ((W.alloc (.cells #[.func (.yield lp) #[] #[]] 91)).alloc (.cells #[.slice none 0 0] 28)) 3 (.int .i64 0)
    rwa [World.size_alloc, World.size_alloc] at this
  have HS9 := Lib.hid (show W9.heap.size = W.heap.size + 3 by rw [← hW9]; simp)
  have hst9 : Sq.Kept (fun _ => True) W W9 := by rw [← hW9]; exact ((Sq.Kept.alloc _ _ _).trans (Sq.Kept.alloc _ _ _)).trans (Sq.Kept.alloc _ _ _)
  rw [hW9]
  clear hW9
  have HST9 := Lib.hid hst9
  have HBY := Lib.hid bY
  have HBA := Lib.hid bA
  have HBZ := Lib.hid bZ
  clear hst9 bY bA bZ
  gi_wp2_with (refine ⟨trivial, ?_⟩; gi_at_call 36; refine (groups_in _ _ _ _).mono ?_; rintro e w' ⟨rfl, rfl⟩)
  rw [HS9.out]
  obtain ⟨W0, hW0⟩ : ∃ W0, W9.alloc (.cells #[.func (.func gf) #[] lb] 26) = W0 := ⟨_, rfl⟩
  have hsz : W0.heap.size = W.heap.size + 4 := by rw [← hW0, World.size_alloc, HS9.out]
  have bY : Boxed W0 W.heap.size 91 (.func (.yield lp) #[] #[]) := by rw [← hW0]; exact HBY.out.alloc _
  have bA : Boxed W0 (W.heap.size + 1) 28 (.slice none 0 0) := by rw [← hW0]; exact HBA.out.alloc _
  have bZ : Boxed W0 (W.heap.size + 2) 3 (.int .i64 0) := by rw [← hW0]; exact HBZ.out.alloc _
  have bS : Boxed W0 (W.heap.size + 3) 26 (.func (.func gf) #[] lb) := by rw [← hW0, ← HS9.out]; exact Boxed.new W9 _ _
  obtain ⟨M, hM⟩ : ∃ M : Sq.Blocks, M = fun k => W.heap.size ≤ k ∧ k < W.heap.size + 4 := ⟨_, rfl⟩
  have hMm : ∀ k, M k ↔ W.heap.size ≤ k ∧ k < W.heap.size + 4 := fun k => by rw [hM]
  have hst0 : Sq.Kept (fun _ => True) W W0 := by rw [← hW0]; exact HST9.out.trans (Sq.Kept.alloc _ _ _)
  have hJ0 : J (ctR M (fun _ => False) (fun _ => False) W0) [] W0 := hJ _ _ _ _ _ h0 ⟨hst0.less fun _ _ _ => trivial, fun _ h => h.elim, fun k h => h.elim (fun h => h.1.elim) (fun h => h.elim (fun h => .inr ((hMm k).1 h).1) (fun h => h.elim))⟩
  have hT0 := HTW.out.kept (hst0.less fun _ _ _ => trivial)
  have HTL := Lib.hid (show ∀ k, T k → k < W.heap.size from by obtain ⟨gf, lb, _, _, h, _⟩ := HTW.out; exact h)
  have bB : Boxed W0 bb 3 (.int .i64 b) := hst0.boxed trivial hCWb
  rw [hW0]
  clear hW0 hM HS9 hcB9 HST9 HBY HBA HBZ
  refine Sq.wp_range rfl (by omega) (gf := 56) (lb := #[.pointer (some ⟨W.heap.size + 3, 0, none⟩)]) rfl trivial (enters_of Try.func56 (by kernel_rfl) rfl)
    (groups1_seq (n - 1) (by omega) (.func (.func gf) #[] lb) L T hL (W.heap.size + 3) W0 bS hT0) (fun k hk => hk.elim (fun h => by omega) (fun h => by have := HTL.out k h; omega)) (fun _ => rfl)
    (CtI L b J M W lp bb)
    (fun c R pre X => c = .ret ∧ ∃ p G, p.map (·.l) <+: cutLs L b ∧ Jx (ctR M G R X) p X)
    (fun a' x => CtA L b J M W lp bb (fun Bf => { tmps := #[.func (.yield lp) #[] #[], .pointer (some ⟨bs, 0, none⟩), .pointer (some ⟨bb, 0, none⟩), .pointer (some ⟨W.heap.size, 0, none⟩), .pointer (some ⟨W.heap.size + 1, 0, none⟩), .pointer (some ⟨W.heap.size + 2, 0, none⟩), .pointer (some ⟨Bf, 0, none⟩), .bool x.2, .func (.func gf) #[] lb, .func (.func 56) #[] #[.pointer (some ⟨W.heap.size + 3, 0, none⟩)], .agg #[.string (Cd.bs x.1.key), .int .u64 x.1.seq, .bool x.1.del, .string (Cd.bs x.1.val)], .bool x.2, undef, undef, undef, undef, undef, undef, undef, undef, undef, undef, undef, undef, undef, undef, undef, undef, undef, undef, undef, undef, undef, undef, undef, undef, undef, undef, undef, undef, undef, undef, undef, undef, undef, undef, undef], defers := [] }) a' x)
    (fun R R' s X X' ⟨G, u, ts, h⟩ st => ⟨G, u, ts, h.step hJ st⟩)
    (fun c R R' s X X' ⟨h1, p, G, h2, h3⟩ st => ⟨h1, p, G, h2, hJx _ _ _ _ _ h3 (ctR_step st)⟩)
    (fun a' x => CtA.steady hJ)
    ⟨fun _ => False, .slice none 0 0, [], by rw [List.length_nil, tld_zero]; rfl, hJ0, ⟨bA, fun h => h⟩, ⟨by rw [List.length_nil, lst_zero]; exact bZ, fun h => h⟩, ⟨bY, fun h => h⟩, ⟨bB, fun h => h⟩, ⟨by rw [List.length_nil, lst_zero]; exact World.ownsRow_nil _ _ _ _, fun _ h => by simp [Value.ownBlock] at h⟩, fun _ h => by simp [Value.ownBlock] at h, fun _ h => h.elim, by omega, fun _ h => h.elim⟩ ?assign ?body ?done ?stop
  case assign =>
    rintro lr R pre x X hbd hsp ⟨G, u, ts, hi'⟩
    have hszX := hi'.size
    gi_wp2
    refine ⟨Sq.Kept.alloc _ _ _, _, u, ts, X.heap.size, hi'.alloc hJ (fun k h => (hbd k h).2) _, ⟨Ob.Obj.new X _ _, .inr rfl, fun r hr e => by have := hi'.gl _ (hi'.g r hr); omega⟩, ?_⟩
    first | rfl | trivial
  case body =>
    rintro lr R pre x a' X hRl hrec hbd hsp ⟨G, u, ts, Bf, hI, ⟨hf, hgf, hnf⟩, rfl⟩
    obtain ⟨hlt, hx1, hx2, hpre, _, hmem⟩ := gp_at hsp
    have hxi := hL x.1 hmem
    have HTOLD := Lib.hid (fun (h1 : newG L pre.length = true) (h2 : lst b L pre.length ≠ []) (h3 : b ≤ (bytes (lst b L pre.length) : Int)) => cut_told hlt h1 h2 h3)
    have HMORE := Lib.hid (fun h => cut_more (b := b) hlt h)
    have hbl : bytes (lst b L pre.length) ≤ 2200000000000 := by
      have h1 := bytes_le (lst b L pre.length) (fun y hy => hL y (lst_in y hy))
      have h2 := lst_len b L pre.length (by omega)
      have h3 : (lst b L pre.length).length ≤ 1048575 := by omega
      have h4 := Nat.mul_le_mul_right 2097168 h3
      omega
    have hll : (lst b L pre.length).length ≤ 1048576 := by
      have h2 := lst_len b L pre.length (by omega)
      omega
    have HLEN := Lib.hid (show (pre ++ [x]).length = pre.length + 1 by simp)
    rw [← hx2] at HTOLD HMORE
    rw [← hx1] at HTOLD HMORE
    obtain ⟨htl, hj, ⟨hl, hnl⟩, ⟨hs, hns⟩, ⟨hy, hny⟩, ⟨hbb, hnb⟩, ⟨hrow, hrn⟩, hg, hgl, hszX, hlo⟩ := hI
    obtain ⟨ao, cap, rfl, hnew⟩ := Sq.row_cases hrow
    obtain ⟨fb, hfb1, hfb2, hfx⟩ := ct_fx (R := ctR M G R X) hrow (fun g h => .inr (.inr (hg g h)))
    have HNEW := Lib.hid hnew
    clear hx1 hx2 hpre hmem hsp hnew
    have hMl : M (W.heap.size + 1) := (hMm _).2 (by omega)
    have hMs : M (W.heap.size + 2) := (hMm _).2 (by omega)
    have hMy : M W.heap.size := (hMm _).2 (by omega)
    have hMq : M (W.heap.size + 3) := (hMm _).2 (by omega)
    have hTk : ∀ k, W.heap.size ≤ k → k ≠ W.heap.size + 3 → ¬ (k = W.heap.size + 3 ∨ T k) := fun k h1 h2 h => h.elim h2 (fun h => by have := HTL.out _ h; omega)
    have hne1 : Bf ≠ W.heap.size + 1 := by have := (hgl Bf hgf).1; omega
    have hne2 : Bf ≠ W.heap.size + 2 := by have := (hgl Bf hgf).1; omega
    have HNF := Lib.hid hnf
    clear hnf
    have hbig : ∀ k, G k → ¬ M k := fun k hk h => by have := (hMm _).1 h; have := hgl k hk; omega
    have HMm := Lib.hid hMm
    have cl := hl.cell
    have fl := hl.frozen
    have cs := hs.cell
    have fs := hs.frozen
    have cy := hy.cell
    have cb := hbb.cell
    obtain ⟨⟨xk, xs, xd, xv⟩, F⟩ := x
    simp only at HTOLD HMORE hf
    have hkl : xk.length ≤ 1048576 := hxi.1
    have hvl : xv.length ≤ 1048576 := hxi.2.1
    clear hxi
    have HYL := Lib.hid hl
    have HYS := Lib.hid hs
    have HYY := Lib.hid hy
    have HYB := Lib.hid hbb
    have HYR := Lib.hid hrow
    have HYF := Lib.hid hf
    have HYJ := Lib.hid hj
    have HTL2 := Lib.hid htl
    have HFX := Lib.hid hfx
    have HRN := Lib.hid hrn
    have HG := Lib.hid hg
    have HGL := Lib.hid hgl
    have HLO := Lib.hid hlo
    have HFB := Lib.hid (And.intro hfb1 hfb2)
    clear hl hs hy hbb hrow hf hj htl hfx hrn hg hgl hlo hfb1 hfb2 hMm
    have HLP := Lib.hid (show lst b L pre.length = [] ↔ (lst b L pre.length).length = 0 from List.length_eq_zero_iff.symm)
    generalize hl0 : lst b L pre.length = l0 at *
    have HL0 := Lib.hid hl0
    clear hl0
    dsimp only
    gi_upto_region 6 with fail
    gi_cut [22] from 12 (fun u wx => u = .bool (F && (!l0.isEmpty && decide (b ≤ (bytes l0 : Int)))) ∧ wx = X)
    case first =>
      cases F with
      | false =>
        gi_wp2_with fail
        gi_meet
        exact ⟨congrArg Value.bool (Bool.false_and _).symm, rfl⟩
      | true =>
        by_cases h0 : l0 = []
        · subst h0
          gi_wp2_with fail
          gi_meet
          exact ⟨rfl, rfl⟩
        · have h1 : (0 : Int) < (l0.length : Int) := by have := List.length_pos_iff.2 h0; omega
          have h2 : l0.isEmpty = false := by simpa using h0
          by_cases h3 : b ≤ (bytes l0 : Int)
          · gi_wp2_with fail
            gi_meet
            exact ⟨by simp [h2, h3], rfl⟩
          · gi_wp2_with fail
            gi_meet
            exact ⟨by simp [h2, h3], rfl⟩
    case rest =>
      obtain ⟨rfl, rfl⟩ := hcut
      obtain ⟨X0, rfl⟩ : ∃ X0 : World, X0 = wc := ⟨_, rfl⟩
      cases hC : (F && (!l0.isEmpty && decide (b ≤ (bytes l0 : Int)))) with
      | true =>
        have hC2 : F = true ∧ l0 ≠ [] ∧ b ≤ (bytes l0 : Int) := by simpa using hC
        obtain ⟨hta, htb, htc⟩ := HTOLD.out hC2.1 hC2.2.1 hC2.2.2
        have HTB := Lib.hid htb
        have hsp2 : (ts ++ [(⟨ao, cap, fb, 0, l0⟩ : Told)]).map (·.l) = tld b L (pre.length + 1) := by rw [hta, List.map_append, HTL2.out]; rfl
        have HSP2 := Lib.hid hsp2
        have HSP3 := Lib.hid (show (ts ++ [(⟨ao, cap, fb, 0, l0⟩ : Told)]).map (·.l) <+: cutLs L b from by rw [hsp2, hta]; exact htc)
        obtain ⟨fn, tmps, assign, body, hyy, hR⟩ := Sq.anyDepth rfl (n - 1 - 1 - 1) (HY.out (ctR M G R X0) ts ⟨ao, cap, fb, 0, l0⟩ X0 HYJ.out (fun k h => h.elim (fun h => by have := hbd k h.1; omega) (fun h => h.elim (fun h => by have := (HMm.out k).1 h; omega) (fun h => by have := HGL.out k h; omega))) HSP3.out HFX.out)
        have HR := Lib.hid hR
        simp only [cEnc9] at hyy
        have hfG : G fb := HG.out fb (HFB.out.2 hC2.2.1)
        have hMn : ∀ k, M k → (ctR M G R X0 k ∧ ¬ COwn ⟨ao, cap, fb, 0, l0⟩ k) ∨ ctT bs bb T k := fun k hk => .inl ⟨.inr (.inl hk), fun h => hbig k (h.2 ▸ hfG) hk⟩
        have HMN := Lib.hid hMn
        have HC2 := Lib.hid hC2
        clear hR hta htb htc hsp2 hMn hC hC2
        gi_wp2_with fail
        refine ⟨fun h => (by cases h), ?_⟩
        refine (Sq.round_in lr HR.out).mono ?_
        rintro e X3 (⟨rfl, hj3, hk3⟩ | ⟨rfl, hjx3, hk3⟩)
        · have b3l := hk3.boxed (HMN.out _ hMl) HYL.out
          have b3s := hk3.boxed (HMN.out _ hMs) HYS.out
          have b3y := hk3.boxed (HMN.out _ hMy) HYY.out
          have b3b := hk3.boxed (.inr (.inl (.inr rfl))) HYB.out
          have b3o := HYF.out.kept hk3 (.inl ⟨.inr (.inr hgf), fun h => HNF.out _ (HFB.out.2 h.1) h.2⟩)
          have hk3' : Sq.Kept (fun k => R k ∨ (k = W.heap.size + 3 ∨ T k)) X0 X3 := hk3.less fun k h _ => by
            rcases h with h | h | h
            · exact .inl ⟨.inl ⟨h, (hbd k h).2⟩, fun h2 => (HGL.out _ hfG).2.2 (by have h9 : k = fb := h2.2; rwa [h9] at h)⟩
            · exact HMN.out _ (by subst h; exact hMq)
            · exact .inr (.inr h)
          have c3l := b3l.cell
          have f3l := b3l.frozen
          have c3s := b3s.cell
          have f3s := b3s.frozen
          have st3 : Sq.Step (ctR M G R X0) (ctR M G R ((X3.setCell ⟨W.heap.size + 1, 0, none⟩ (.slice none 0 0)).setCell ⟨W.heap.size + 2, 0, none⟩ (.int .i64 0))) X3 ((X3.setCell ⟨W.heap.size + 1, 0, none⟩ (.slice none 0 0)).setCell ⟨W.heap.size + 2, 0, none⟩ (.int .i64 0)) := by
            refine ⟨(Sq.Kept.setCell _ _ (fun h => h (.inr (.inl hMl)))).trans (Sq.Kept.setCell _ _ (fun h => h (.inr (.inl hMs)))), ?_, ?_⟩
            · rintro k (h | h)
              · exact .inl ⟨h.1, by have := hk3.size; simp; omega⟩
              · exact .inr h
            · rintro k (h | h)
              · exact .inl (.inl ⟨h.1, (hbd k h.1).2⟩)
              · exact .inl (.inr h)
          have t2k : Sq.Kept (fun k => R k ∨ (k = W.heap.size + 3 ∨ T k)) X0 ((X3.setCell ⟨W.heap.size + 1, 0, none⟩ (.slice none 0 0)).setCell ⟨W.heap.size + 2, 0, none⟩ (.int .i64 0)) := (hk3'.trans (Sq.Kept.setCell _ _ (fun h => h.elim hnl (hTk _ (by simp) (by simp))))).trans (Sq.Kept.setCell _ _ (fun h => h.elim hns (hTk _ (by simp) (by simp))))
          have t2j : J (ctR M G R ((X3.setCell ⟨W.heap.size + 1, 0, none⟩ (.slice none 0 0)).setCell ⟨W.heap.size + 2, 0, none⟩ (.int .i64 0))) (ts ++ [⟨ao, cap, fb, 0, l0⟩]) ((X3.setCell ⟨W.heap.size + 1, 0, none⟩ (.slice none 0 0)).setCell ⟨W.heap.size + 2, 0, none⟩ (.int .i64 0)) := hJ _ _ _ _ _ hj3 st3
          have t2l : Boxed ((X3.setCell ⟨W.heap.size + 1, 0, none⟩ (.slice none 0 0)).setCell ⟨W.heap.size + 2, 0, none⟩ (.int .i64 0)) (W.heap.size + 1) 28 (.slice none 0 0) := (b3l.set _).other (by simp) _
          have t2s : Boxed ((X3.setCell ⟨W.heap.size + 1, 0, none⟩ (.slice none 0 0)).setCell ⟨W.heap.size + 2, 0, none⟩ (.int .i64 0)) (W.heap.size + 2) 3 (.int .i64 0) := (b3s.other (by simp) _).set _
          have t2y : Boxed ((X3.setCell ⟨W.heap.size + 1, 0, none⟩ (.slice none 0 0)).setCell ⟨W.heap.size + 2, 0, none⟩ (.int .i64 0)) W.heap.size 91 (.func (.yield lp) #[] #[]) := (b3y.other (by simp) _).other (by simp) _
          have t2b : Boxed ((X3.setCell ⟨W.heap.size + 1, 0, none⟩ (.slice none 0 0)).setCell ⟨W.heap.size + 2, 0, none⟩ (.int .i64 0)) bb 3 (.int .i64 b) := (b3b.other (by simp; omega) _).other (by simp; omega) _
          have t2o := (b3o.other (p := ⟨W.heap.size + 1, 0, none⟩) hne1 (.slice none 0 0)).other (p := ⟨W.heap.size + 2, 0, none⟩) hne2 (.int .i64 0)
          have hsz3 := hk3.size
          have hss : X3.heap.size ≤ ((X3.setCell ⟨W.heap.size + 1, 0, none⟩ (.slice none 0 0)).setCell ⟨W.heap.size + 2, 0, none⟩ (.int .i64 0)).heap.size := by simp
          clear cl fl cs fs cy cb hj3 hk3 b3l b3s b3y b3b b3o st3 hk3'
          gi_upto_region 9 with fail
          generalize (X3.setCell ⟨W.heap.size + 1, 0, none⟩ (.slice none 0 0)).setCell ⟨W.heap.size + 2, 0, none⟩ (.int .i64 0) = X2 at *
          obtain ⟨lz, hlz⟩ : ∃ lz : List Ver, lz = [] := ⟨_, rfl⟩
          have t2r : X2.ownsRow (W.heap.size + 4) 57 4 (.slice none 0 0) lz.length (vcs lz) := by rw [hlz]; exact World.ownsRow_nil _ _ _ _
          have hll2 : lz.length ≤ 1048576 := by rw [hlz]; simp
          have t2t := HSP2.out
          have t2i : lst b L (pre.length + 1) = lz ++ [⟨xk, xs, xd, xv⟩] := by rw [hlz]; exact HTB.out
          have t2n : ∀ g, (Value.slice none 0 0).ownBlock = some g → ¬ R g := fun _ h => by simp [Value.ownBlock] at h
          have t2g : ∀ g, (Value.slice none 0 0).ownBlock = some g → G g := fun _ h => by simp [Value.ownBlock] at h
          have t2h : ∀ k, G k → W.heap.size + 4 ≤ k ∧ k < X2.heap.size ∧ ¬ R k := fun k hk => by have := HGL.out k hk; exact ⟨this.1, by omega, this.2.2⟩
          have t2z : W.heap.size + 4 ≤ X2.heap.size := by omega
          have t2f : ∀ r, (Value.slice none 0 0).ownBlock = some r → Bf ≠ r := fun _ h => by simp [Value.ownBlock] at h
          have hb0' : (bytes lz : Nat) = 0 := by rw [hlz]; rfl
          obtain ⟨az, cz, hq⟩ : ∃ az cz, Value.slice none 0 0 = .slice az lz.length cz := ⟨none, 0, by rw [hlz]; rfl⟩
          rw [hq] at t2l t2r t2n t2g t2f
          clear hlz hq
          have c2l := t2l.cell
          have f2l := t2l.frozen
          have c2s := t2s.cell
          have f2s := t2s.frozen
          have v0 := t2o.cell 0
          have v1 := t2o.cell 1
          have v2 := t2o.cell 2
          have v3 := t2o.cell 3
          simp at v0 v1 v2 v3
          have hltb := t2o.lt
          have w1 : IntKind.i64.wrap ((xk.length : Int) + (xv.length : Int)) = (xk.length : Int) + (xv.length : Int) := by rw [IntKind.wrap_i64]; omega
          have w2 : IntKind.i64.wrap ((xk.length : Int) + (xv.length : Int) + 16) = (xk.length : Int) + (xv.length : Int) + 16 := by rw [IntKind.wrap_i64]; omega
          have HV := Lib.hid (show Value.int .i64 ((xk.length : Int) + (xv.length : Int) + 16) = .int .i64 (bytes (lz ++ [⟨xk, xs, xd, xv⟩]) : Nat) from by rw [bytes_snoc, hb0']; simp)
          have HB0 := Lib.hid hb0'
          clear hb0'
          have hrow2 := t2r.alloc (.cells #[.string (Cd.bs xk), .int .u64 xs, .bool xd, .string (Cd.bs xv)] 57)
          have HNX := Lib.hid (fun X1 X3 g cap (h1 : Sq.Kept (fun _ => True) X2 X1) (h2 : X1.heap.size = X2.heap.size + 1) h3 h4 h5 => ct_next (T := T) (x := ⟨xk, xs, xd, xv⟩) (V := Value.int .i64 ((xk.length : Int) + (xv.length : Int) + 16)) (X1 := X1) (X3 := X3) (g := g) (cap := cap) hJ HMm.out HTL.out l2 t2t t2i t2j ⟨t2l, hnl⟩ ⟨t2s, hns⟩ ⟨t2y, hny⟩ ⟨t2b, hnb⟩ t2r t2n t2g t2h t2z HLO.out (fun k hk => by have := hbd k hk; omega) h1 h2 h3 h4 h5)
          have HO := Lib.hid t2o
          have HNN := Lib.hid t2f
          have HKX := Lib.hid t2k
          clear t2l t2s t2y t2b t2r t2o t2t t2i t2j t2n t2g t2h t2z t2f t2k
          obtain ⟨i0, hi0, hz0, hz1, hz2⟩ := info_parts info_Ver9
          gi_wp2_with (refine wpListIn_append_lies _ rfl _ _ 28 rfl (W.heap.size + 4) 57 i0 (.agg #[.string ⟨#[]⟩, .int .u64 0, .bool false, .string ⟨#[]⟩]) 4 48 Try.underlying28 hi0 hz0 hz1 hz2 rfl (by decide) _ _ _ rfl hrow2 ⟨X2.heap.size, 0, none⟩ 1 1 [_, _, _, _] rfl rfl (by simpa using Vs.cell_four_new X2 _ _ _ _ _) (by simp [Value.oneCell']) (by decide) (by unfold maxLen; omega) (by omega) (by simp; omega) (X2.heap.size + 1) (by simp) ?_; intro g cap9 X9 hown9 hgrow9 hat9 hlt9; obtain ⟨⟨z1, z2, z3⟩, z4⟩ := HNX.out _ X9 g cap9 (Sq.Kept.alloc _ _ _) (by simp) hown9 hgrow9 hat9; have z5 := z3 Bf _ HO.out HNN.out; have Z4 := Lib.hid (z4 HV.out); have q1 := z1.cell; have q2 := z1.frozen; have q3 := z2.cell; have q4 := z2.frozen; have q5 := z5.cell 0; have q6 := z5.cell 3; simp at q5 q6; clear z1 z2 z3 z4 z5 hown9 hgrow9 hat9)
          have h9 := Z4.out.1
          rw [← HLEN.out] at h9
          exact ⟨HKX.out.trans Z4.out.2, _, _, _, h9⟩
        · have hkx : Sq.Kept (fun k => R k ∨ (k = W.heap.size + 3 ∨ T k)) X0 X3 := hk3.less fun k h _ => by
            rcases h with h | h | h
            · exact .inl ⟨.inl ⟨h, (hbd k h).2⟩, fun h2 => (HGL.out _ hfG).2.2 (by have h9 : k = fb := h2.2; rwa [h9] at h)⟩
            · exact HMN.out _ (by subst h; exact hMq)
            · exact .inr (.inr h)
          have hjx4 : Jx (ctR M G R X3) (ts ++ [⟨ao, cap, fb, 0, l0⟩]) X3 := by
            refine hJx _ _ _ _ _ hjx3 ⟨Sq.Kept.refl _ _, ?_, ?_⟩
            · rintro k (h | h)
              · exact .inl ⟨h.1, by have := hk3.size; omega⟩
              · exact .inr h
            · rintro k (h | h)
              · exact .inl (.inl ⟨h.1, (hbd k h.1).2⟩)
              · exact .inl (.inr h)
          have HX4 := Lib.hid hjx4
          have HKX := Lib.hid hkx
          clear hjx3 hk3 hjx4 hkx
          gi_wp2_with fail
          exact ⟨HKX.out, rfl, _, G, HSP3.out, HX4.out⟩
      | false =>
        have hC2 : F = false ∨ l0 = [] ∨ (bytes l0 : Int) < b := by
          cases F
          · exact .inl rfl
          · cases l0
            · exact .inr (.inl rfl)
            · refine .inr (.inr ?_); simpa using hC
        obtain ⟨hta, htb⟩ := HMORE.out hC2
        have t2l := HYL.out
        have t2s := HYS.out
        have t2y := HYY.out
        have t2b := HYB.out
        have t2r := HYR.out
        have t2o := HYF.out
        have t2t : ts.map (·.l) = tld b L (pre.length + 1) := by rw [hta]; exact HTL2.out
        have t2i := htb
        have t2j := HYJ.out
        have t2n := HRN.out
        have t2g := HG.out
        have t2h := HGL.out
        have t2z := hszX
        have t2f := HNF.out
        have t2k := Sq.Kept.refl (fun k => R k ∨ (k = W.heap.size + 3 ∨ T k)) X0
        clear cl fl cs fs cy cb hta htb hC hC2
        have c2l := t2l.cell
        have f2l := t2l.frozen
        have c2s := t2s.cell
        have f2s := t2s.frozen
        have v0 := t2o.cell 0
        have v1 := t2o.cell 1
        have v2 := t2o.cell 2
        have v3 := t2o.cell 3
        simp at v0 v1 v2 v3
        have hltb := t2o.lt
        have w1 : IntKind.i64.wrap ((xk.length : Int) + (xv.length : Int)) = (xk.length : Int) + (xv.length : Int) := by rw [IntKind.wrap_i64]; omega
        have w2 : IntKind.i64.wrap ((xk.length : Int) + (xv.length : Int) + 16) = (xk.length : Int) + (xv.length : Int) + 16 := by rw [IntKind.wrap_i64]; omega
        have w3 : IntKind.i64.wrap ((bytes l0 : Int) + ((xk.length : Int) + (xv.length : Int) + 16)) = (bytes l0 : Int) + ((xk.length : Int) + (xv.length : Int) + 16) := by rw [IntKind.wrap_i64]; omega
        have HV := Lib.hid (show Value.int .i64 ((bytes l0 : Int) + ((xk.length : Int) + (xv.length : Int) + 16)) = .int .i64 (bytes (l0 ++ [⟨xk, xs, xd, xv⟩]) : Nat) from by rw [bytes_snoc]; simp)
        have hrow2 := t2r.alloc (.cells #[.string (Cd.bs xk), .int .u64 xs, .bool xd, .string (Cd.bs xv)] 57)
        have HNX := Lib.hid (fun X1 X3 g cap (h1 : Sq.Kept (fun _ => True) X0 X1) (h2 : X1.heap.size = X0.heap.size + 1) h3 h4 h5 => ct_next (T := T) (x := ⟨xk, xs, xd, xv⟩) (V := Value.int .i64 ((bytes l0 : Int) + ((xk.length : Int) + (xv.length : Int) + 16))) (X1 := X1) (X3 := X3) (g := g) (cap := cap) hJ HMm.out HTL.out l2 t2t t2i t2j ⟨t2l, hnl⟩ ⟨t2s, hns⟩ ⟨t2y, hny⟩ ⟨t2b, hnb⟩ t2r t2n t2g t2h t2z HLO.out (fun k hk => by have := hbd k hk; omega) h1 h2 h3 h4 h5)
        have HO := Lib.hid t2o
        have HNN := Lib.hid t2f
        have HKX := Lib.hid t2k
        clear t2l t2s t2y t2b t2r t2o t2t t2i t2j t2n t2g t2h t2z t2f t2k
        obtain ⟨i0, hi0, hz0, hz1, hz2⟩ := info_parts info_Ver9
        gi_wp2_with (refine wpListIn_append_lies _ rfl _ _ 28 rfl (W.heap.size + 4) 57 i0 (.agg #[.string ⟨#[]⟩, .int .u64 0, .bool false, .string ⟨#[]⟩]) 4 48 Try.underlying28 hi0 hz0 hz1 hz2 rfl (by decide) _ _ _ rfl hrow2 ⟨X0.heap.size, 0, none⟩ 1 1 [_, _, _, _] rfl rfl (by simpa using Vs.cell_four_new X0 _ _ _ _ _) (by simp [Value.oneCell']) (by decide) (by unfold maxLen; omega) (by omega) (by simp; omega) (X0.heap.size + 1) (by simp) ?_; intro g cap9 X9 hown9 hgrow9 hat9 hlt9; obtain ⟨⟨z1, z2, z3⟩, z4⟩ := HNX.out _ X9 g cap9 (Sq.Kept.alloc _ _ _) (by simp) hown9 hgrow9 hat9; have z5 := z3 Bf _ HO.out HNN.out; have Z4 := Lib.hid (z4 HV.out); have q1 := z1.cell; have q2 := z1.frozen; have q3 := z2.cell; have q4 := z2.frozen; have q5 := z5.cell 0; have q6 := z5.cell 3; simp at q5 q6; clear z1 z2 z3 z4 z5 hown9 hgrow9 hat9)
        have h9 := Z4.out.1
        rw [← HLEN.out] at h9
        exact ⟨HKX.out.trans Z4.out.2, _, _, _, h9⟩
  case done =>
    rintro D R ys X hD hRD rfl ⟨G, u, ts, hi'⟩ hdf
    rw [gp_len] at hi'
    obtain ⟨htl, hj, ⟨hl, hnl⟩, ⟨hs, hns⟩, ⟨hy, hny⟩, ⟨hbb, hnb⟩, ⟨hrow, hrn⟩, hg, hgl, hszX, hlo⟩ := hi'
    obtain ⟨ao, cap, rfl, hnew⟩ := Sq.row_cases hrow
    obtain ⟨fb, hfb1, hfb2, hfx⟩ := ct_fx (R := ctR M G R X) hrow (fun g h => .inr (.inr (hg g h)))
    have hlast := cut_last (b := b) (L := L)
    have cl := hl.cell
    have cy := hy.cell
    have HNE := Lib.hid (fun (h : L ≠ []) => lst_ne (b := b) (L := L) (k := L.length) (List.length_pos_iff.2 h) (Nat.le_refl _))
    have HLZ := Lib.hid (fun (h : L = []) => show lst b L L.length = [] from by subst h; exact lst_zero _ _)
    have hllz : (lst b L L.length).length ≤ 1048576 := by rw [lst_len b L _ (Nat.le_refl _)]; omega
    generalize hl0 : lst b L L.length = l0 at *
    have HL0 := Lib.hid hl0
    have HJX := Lib.hid hj
    have HTT := Lib.hid htl
    have HFX := Lib.hid hfx
    have HG := Lib.hid hg
    have HGL := Lib.hid hgl
    have HLO := Lib.hid hlo
    have HLAST := Lib.hid hlast
    have HFB := Lib.hid (And.intro hfb1 hfb2)
    have HMm := Lib.hid hMm
    clear hl0 hl hs hy hbb hrow hj htl hfx hrn hg hgl hlo hlast hnew hfb1 hfb2 hMm
    by_cases hE : L = []
    · have hz := HLZ.out hE
      have hSS := HLAST.out
      rw [if_pos hE, List.append_nil] at hSS
      have HSS := Lib.hid (show ts.map (·.l) = cutLs L b by rw [hSS]; exact HTT.out)
      clear hSS hE
      subst hz
      gi_wp2_with fail
      refine ⟨by simp, .inl ⟨_, _, rfl, run_takeDeferred hdf, ?_⟩⟩
      exact ⟨_, results_none rfl _ _ _, ⟨_, rfl⟩, .inl ⟨ts, HSS.out, _, hJ _ _ _ _ _ HJX.out (ctR_step (Sq.Step.putObj _ _ hRD))⟩⟩
    · have hz := HNE.out hE
      have hSS := HLAST.out
      rw [if_neg hE] at hSS
      have hS2 : (ts ++ [(⟨ao, cap, fb, 0, l0⟩ : Told)]).map (·.l) = cutLs L b := by rw [hSS, List.map_append, HTT.out]; rfl
      have HSS := Lib.hid hS2
      have h1 : (0 : Int) < (l0.length : Int) := by have := List.length_pos_iff.2 hz; omega
      have hfG : G fb := HG.out fb (HFB.out.2 hz)
      have HZ := Lib.hid hz
      have hbdD : D < X.heap.size := (Array.getElem?_eq_some_iff.1 hdf).1
      have hDG : D ≠ fb := fun e => (HGL.out _ hfG).2.2 (e ▸ hRD)
      obtain ⟨fn, tmps, assign, body, hyy, hR⟩ := HY.out (ctR M G R X) ts ⟨ao, cap, fb, 0, l0⟩ X HJX.out (fun k h => h.elim (fun h => ⟨HLO.out k h.1, h.2⟩) (fun h => h.elim (fun h => by have := (HMm.out k).1 h; omega) (fun h => by have := HGL.out k h; omega))) (by rw [hS2]; exact List.prefix_refl _) HFX.out
      have HR := Lib.hid hR
      simp only [cEnc9] at hyy
      clear hSS hE hS2 hz hR
      gi_wp2_with fail
      refine HR.out.mono ?_
      rintro e X3 (⟨rfl, hj3, hk3⟩ | ⟨rfl, hjx3, hk3⟩)
      · have hd3 : X3.heap[D]? = some (.deferred (some [])) := (hk3.block D (.inl ⟨.inl ⟨hRD, hbdD⟩, fun h => hDG h.2⟩) hbdD).trans hdf
        have HJ3 := Lib.hid hj3
        clear hj3 hk3
        gi_wp2_with fail
        refine ⟨by simp, .inl ⟨_, _, rfl, run_takeDeferred hd3, ?_⟩⟩
        exact ⟨_, results_none rfl _ _ _, ⟨_, rfl⟩, .inl ⟨_, _, HSS.out, hJ _ _ _ _ _ HJ3.out (Sq.Step.putObj _ _ (.inl ⟨hRD, hbdD⟩))⟩⟩
      · have hd3 : X3.heap[D]? = some (.deferred (some [])) := (hk3.block D (.inl ⟨.inl ⟨hRD, hbdD⟩, fun h => hDG h.2⟩) hbdD).trans hdf
        have HJ3 := Lib.hid hjx3
        clear hjx3 hk3
        gi_wp2_with fail
        refine ⟨by simp, .inl ⟨_, _, rfl, run_takeDeferred hd3, ?_⟩⟩
        exact ⟨_, results_none rfl _ _ _, ⟨_, rfl⟩, .inr ⟨_, _, by rw [HSS.out]; exact List.prefix_refl _, hJx _ _ _ _ _ HJ3.out (Sq.Step.putObj _ _ (.inl ⟨hRD, hbdD⟩))⟩⟩
  case stop =>
    rintro D R c pre X hD hRD hsp ⟨rfl, p, G, hp, hj⟩ hdf
    gi_wp2
    refine ⟨by simp, .inl ⟨_, _, rfl, run_takeDeferred hdf, ?_⟩⟩
    exact ⟨_, results_none rfl _ _ _, ⟨_, rfl⟩, .inr ⟨p, hp, _, hJx _ _ _ _ _ hj (ctR_step (Sq.Step.putObj _ _ hRD))⟩⟩
end Mg
end Go.Proofs.Ytaohipgfnnclhaa

/-
  The program's merge: Cut, called.
-/
namespace Go.Proofs.Ytaohipgfnnclhaa
open Go.RowKit Go.Shelf
set_option linter.unusedSimpArgs false
set_option linter.unusedVariables false
namespace Mg
open Mt (Ver mayB lessB placeB VerIn verV)
open Vs (Vers At vcs)

set_option maxRecDepth 100000 in
set_option maxHeartbeats 4000000 in
theorem cutOk : CutOk := by
  intro sv L T b w hT hL hmany hb
  obtain ⟨gf, lb, rfl⟩ : ∃ gf lb, sv = .func (.func gf) #[] lb := by obtain ⟨gf, lb, h, _⟩ := hT; exact ⟨gf, lb, h⟩
  have HT := Lib.hid hT
  have HTL := Lib.hid (show ∀ k, T k → k < w.heap.size from by obtain ⟨gf, lb, _, _, h, _⟩ := hT; exact h)
  clear hT
  obtain ⟨wA, hwA⟩ : ∃ wA, (w.alloc (.cells #[.func (.func gf) #[] lb] 26)).alloc (.cells #[.int .i64 b] 3) = wA := ⟨_, rfl⟩
  have hbel : Below w.heap.size w wA := by rw [← hwA]; exact ((Below.refl _ _).alloc (Nat.le_refl _) _).alloc (by simp) _
  have b0 : Boxed wA w.heap.size 26 (.func (.func gf) #[] lb) := by rw [← hwA]; exact (Boxed.new w _ _).alloc _
  have b1 : Boxed wA (w.heap.size + 1) 3 (.int .i64 b) := by
    rw [← hwA]
    have := Boxed.new (w.alloc (.cells #[.func (.func gf) #[] lb] 26)) 3 (.int .i64 b)
    rwa [World.size_alloc] at this
  have HB := Lib.hid hbel
  have HB0 := Lib.hid b0
  have HB1 := Lib.hid b1
  have HWA := Lib.hid hwA
  clear hbel b0 b1 hwA
  have hmf : ∀ (fn : Fn) (first cap : Array Value) (w : World), (Instr.makeFunc fn first cap).run Try.prog w = .ok (.func fn first cap) w := fun _ _ _ _ => rfl
  go_enter Try.func22, Try.ntmps22
  go_wp2_with fail
  go_ret
  rw [HWA.out]
  refine ⟨_, ctT w.heap.size (w.heap.size + 1) T, rfl, ⟨43, _, rfl, enters_of Try.func43 (by kernel_rfl) rfl, ?_, fun W hW => ?_⟩, ?_, HB.out⟩
  · rintro k ((rfl | rfl) | h)
    · exact HB0.out.lt
    · exact HB1.out.lt
    · have := HTL.out k h; have := HB.out.size; omega
  · have hT' := HT.out.below HB.out
    exact cut1_seq 11 (by omega) _ L T hL hmany b hb _ _ W (hW.boxed (.inl (.inl rfl)) HB0.out) (hW.boxed (.inl (.inr rfl)) HB1.out) (hT'.kept (hW.less fun k h _ => .inr h))
  · rintro k ((rfl | rfl) | h)
    · exact .inr (Nat.le_refl _)
    · exact .inr (by omega)
    · exact .inl h
end Mg
end Go.Proofs.Ytaohipgfnnclhaa

/-
  The law MergeCuts over what the program owes: the walk.
-/
namespace Go.Proofs.Ytaohipgfnnclhaa
open Go.RowKit Go.Shelf
set_option linter.unusedSimpArgs false
set_option linter.unusedVariables false
namespace Mg
open Mt (Ver VerIn verV)
open Vs (Vers At vcs)
open Tb (ver0)
attribute [local go_sem] Oper.semAt_some
theorem results_cell1 {fn : Func} {p : Tmp} {ty : TypeId} (h : fn.results = #[.cell p ty]) (tmps : Array Value) (P : Program) (w : World) :
    (results fn tmps).run P w = ((asAddr (tmps.getD p undef)).run P w).andThen fun a w₁ => (loadVar ty a).run P w₁ := by
  simp only [results, h]
  simp [Sem.run_bind, Result.andThen]
/-- between the rounds of the range -/
structure CutI (T P0 : Sq.Blocks) (b5 b6 b7 : Nat) (wv : Value) (W0 : World) (R : Sq.Blocks) (pre : List Told) (X : World) : Prop where
  cs : ∃ u, CS R T b5 b6 b7 wv (pre.map (·.l)).flatten pre.length u X ∧ ∀ g, u.ownBlock = some g → ¬ P0 g
  old : Sq.Kept P0 W0 X
  off : ∀ k, P0 k → ¬ R k
theorem CutI.steady {T P0 : Sq.Blocks} {b5 b6 b7 : Nat} {wv : Value} {W0 : World} (hP : ∀ k, P0 k → k < W0.heap.size) : Sq.Steady (CutI T P0 b5 b6 b7 wv W0) := by
  intro R R' pre X Y hI st
  obtain ⟨⟨u, h, hu⟩, ho, hf⟩ := hI
  have hn : ∀ k, k < X.heap.size → ¬ R k → ¬ R' k := fun k h1 h2 h3 => by
    rcases st.new k h3 with h | h
    · exact h2 h
    · omega
  have hg : ∀ g, u.ownBlock = some g → g < X.heap.size := fun g hg => (Ob.row_lt h.row hg).2
  have hk := h.kept st.kept h.r5.1 h.r6.1 h.r7.1 (fun g hg => (h.own g hg).1)
  refine ⟨⟨u, ⟨hk.x5, hk.x6, hk.x7, hk.row, fun g hg' => ⟨hn g (hg g hg') (h.own g hg').1, (h.own g hg').2⟩, ⟨hn _ h.x5.lt h.r5.1, h.r5.2⟩, ⟨hn _ h.x6.lt h.r6.1, h.r6.2⟩, ⟨hn _ h.x7.lt h.r7.1, h.r7.2⟩, h.ne⟩, hu⟩, ho.trans (st.kept.less fun k hk _ => hf k hk), fun k hk => hn k (Nat.lt_of_lt_of_le (hP k hk) ho.size) (hf k hk)⟩

set_option maxRecDepth 100000 in
set_option maxHeartbeats 4000000 in
theorem mergeCuts_walk (CO : CutOk) (a : Option Addr) (cap fb fo : Nat) (L : List Ver) (b : Int) (w : World) (hcap : L.length ≤ cap) (ha : 0 < L.length → a = some ⟨fb, fo, none⟩ ∧ fb < w.heap.size) (hcells : ∀ j (h : j < L.length), At w fb (fo + j * 4) L[j]) (hc2 : cap ≤ 9223372036854775807)
    (hI : ∀ x ∈ L, VerIn x) (hL : L.length ≤ 1048576) (hb : -9223372036854775808 ≤ b ∧ b ≤ 9223372036854775807) :
    Calls Try.prog 6 #[.slice a L.length cap, .int .i64 b] w fun e w' => e = .returned (.bool true) ∧ Below w.heap.size w w' := by
  have HV : Hid (Vers w.heap.size w (.slice a L.length cap) L) := Lib.hid ⟨a, cap, fb, fo, rfl, ha, hcells⟩
  have HRO := Lib.hid (fun W (h : Below w.heap.size w W) => row_anyT (.slice a L.length cap) L w.heap.size W (HV.out.grow h (Nat.le_refl _)) h.size (by omega))
  have HCT := Lib.hid (fun sv T W (h : Tells W sv L T) => CO sv L T b W h hI hL hb)
  have HCR := Lib.hid (fun W (h : Below w.heap.size w W) => cutR9_any b a cap fb fo L W hcap (fun h0 => ⟨(ha h0).1, Nat.lt_of_lt_of_le (ha h0).2 h.size⟩) (fun j hj => (hcells j hj).below h (ha (by omega)).2) hI hL hc2)
  refine (callsIn_wide (n := 12)).1 ?_
  refine callsIn_of_wp_marks Try.func6 rfl trivial ?_ rfl
  refine wpIn_wide.2 ?_
  simp only [Try.ntmps6, List.size_toArray, List.length_cons, List.length_nil, Nat.reduceAdd, Nat.reduceSub, Array.replicate_succ, Array.replicate_zero, List.push_toArray, List.append_toArray, List.nil_append, List.cons_append]
  go_wp2_with (first
    | (go_at_call 21; (with_reducible refine (HCR.out _ ((Below.refl _ _).alloc (Nat.le_refl _) _)).mono ?_); rintro e w1 ⟨wv, rfl, own1, hb1⟩; obtain ⟨ai, icap, rfl, hai⟩ := Sq.row_cases own1)
    | (go_at_call 15; (with_reducible refine (HRO.out _ ((((((Below.refl _ _).alloc (Nat.le_refl _) _).trans (hb1.mono (by simp))).alloc (by have := hb1.size; simp at this; omega) _).alloc (by have := hb1.size; simp at this ⊢; omega) _).alloc (by have := hb1.size; simp at this ⊢; omega) _)).mono ?_); rintro e w2 ⟨rv, T1, rfl, ht1, hd1, hb2⟩)
    | (go_at_call 22; (with_reducible refine (HCT.out _ _ _ ht1).mono ?_); rintro e w3 ⟨sv, T, rfl, ht2, hd2, hb3⟩))
  have s1 : w.heap.size + 1 ≤ w1.heap.size := by have := hb1.size; simpa using this
  obtain ⟨wb, hwb⟩ : ∃ wb, ((w1.alloc (.cells #[.slice ai (cut L b).length icap] 22)).alloc (.cells #[.slice none 0 0] 28)).alloc (.cells #[.int .i64 0] 3) = wb := ⟨_, rfl⟩
  have hkb : Below w1.heap.size w1 wb := by rw [← hwb]; exact (((Below.refl _ _).alloc (Nat.le_refl _) _).alloc (by simp) _).alloc (by simp; omega) _
  have hsb : wb.heap.size = w1.heap.size + 3 := by rw [← hwb]; simp
  have hb4 : Below w.heap.size w w1 := ((Below.refl _ _).alloc (Nat.le_refl _) _).trans (hb1.mono (by simp))
  have y4 : Boxed wb w.heap.size 4 (.bool false) := (Sq.Kept.of_below (T := fun _ => True) hkb).boxed trivial ((Sq.Kept.of_below (T := fun _ => True) hb1).boxed trivial (Boxed.new w 4 (.bool false)))
  have y5 : Boxed wb w1.heap.size 22 (.slice ai (cut L b).length icap) := by rw [← hwb]; exact ((Boxed.new w1 _ _).alloc _).alloc _
  have y6 : Boxed wb (w1.heap.size + 1) 28 (.slice none 0 0) := by
    have := Boxed.new (w1.alloc (.cells #[.slice ai (cut L b).length icap] 22)) 28 (.slice none 0 0)
    rw [World.size_alloc] at this
    rw [← hwb]; exact this.alloc _
  have y7 : Boxed wb (w1.heap.size + 1 + 1) 3 (.int .i64 0) := by
    have := Boxed.new ((w1.alloc (.cells #[.slice ai (cut L b).length icap] 22)).alloc (.cells #[.slice none 0 0] 28)) 3 (.int .i64 0)
    rw [World.size_alloc, World.size_alloc] at this
    rw [← hwb]; exact this
  rw [hwb] at hb2 hd1
  have hbB : Below wb.heap.size wb w3 := hb2.trans (hb3.mono hb2.size)
  have kB : Sq.Kept (fun _ => True) wb w3 := Sq.Kept.of_below hbB
  have x4 := kB.boxed trivial y4
  have x5 := kB.boxed trivial y5
  have x6 := kB.boxed trivial y6
  have x7 := kB.boxed trivial y7
  have hB3 : Below w.heap.size w w3 := (hb4.trans (hkb.mono hb4.size)).trans (hbB.mono (Nat.le_trans hb4.size hkb.size))
  have own3 := Sq.row_kept own1 ((Sq.Kept.of_below (T := fun _ => True) hkb).trans kB) (fun _ _ => trivial)
  have s2 := hb2.size
  have s3 := hb3.size
  obtain ⟨gf, lb, rfl, hent, hTl, hsq⟩ := ht2
  have hTf : ∀ k, T k → k < w.heap.size ∨ wb.heap.size ≤ k := fun k hk => by
    rcases hd2 k hk with h | h
    · exact hd1 k h
    · exact .inr (Nat.le_trans s2 h)
  have hcw : ∀ j (h : j < L.length), At w3 fb (fo + j * 4) L[j] := fun j hj => (hcells j hj).below hB3 (ha (by omega)).2
  have hsq1 := hsq w3 (Sq.Kept.refl _ _)
  clear hb2 hb3 hd1 hd2 ht1 hb1 hkb y4 y5 y6 y7 kB hwb hb4 hbB hsq hcells
  generalize w1.heap.size = B at *
  refine (wpIn_wide (n := 12)).1 ?_
  refine Sq.wp_rangeW rfl (by omega) (gf := gf) (lb := lb) rfl trivial hent
    hsq1 CFx.mono CFx.kept CFx.own hTl (fun _ => rfl)
    (CutI T (fun k => k < w3.heap.size ∧ k ≠ B + 1 ∧ k ≠ B + 1 + 1) B (B + 1) (B + 1 + 1) (.slice ai (cut L b).length icap) w3)
    (fun _ _ _ _ => False)
    (fun a' x R pre X => CutI T (fun k => k < w3.heap.size ∧ k ≠ B + 1 ∧ k ≠ B + 1 + 1) B (B + 1) (B + 1 + 1) (.slice ai (cut L b).length icap) w3 R pre X ∧
      a' = { tmps := #[.slice a L.length cap, .int .i64 b, undef, undef, .pointer (some ⟨w.heap.size, 0, none⟩), .pointer (some ⟨B, 0, none⟩), .pointer (some ⟨B + 1, 0, none⟩), .pointer (some ⟨B + 1 + 1, 0, none⟩), .slice x.a x.l.length x.cap, undef, undef, undef,
        .slice a L.length cap, .int .i64 b, .slice ai (cut L b).length icap, .slice a L.length cap, rv, .int .i64 b, .func (.func gf) #[] lb, .slice x.a x.l.length x.cap, undef, undef, undef, undef, undef, undef, undef, undef, undef, undef, undef, undef, undef, undef, undef, undef, undef, undef, undef, undef, undef, undef, undef, undef, undef, undef, undef, undef, undef, undef, undef, undef, undef, undef, undef, undef, undef, undef, undef, undef, undef, undef, undef, undef, undef, undef], defers := [] })
    (CutI.steady fun k hk => hk.1)
    (fun c _ _ _ _ _ h _ => h)
    (fun a' x => (CutI.steady fun k hk => hk.1).and (Sq.Steady.pure _))
    ⟨⟨.slice none 0 0, ⟨x5, x6, x7, World.ownsRow_nil _ _ _ _, fun _ h => by simp [Value.ownBlock] at h, ⟨fun h => h, fun h => by have := hTf _ h; omega⟩, ⟨fun h => h, fun h => by have := hTf _ h; omega⟩, ⟨fun h => h, fun h => by have := hTf _ h; omega⟩, by omega⟩, fun _ h => by simp [Value.ownBlock] at h⟩, Sq.Kept.refl _ _, fun _ _ h => h⟩ ?assign ?body ?done ?stop
  case assign =>
    rintro lr R pre x X hbd hsp hI hfx
    gi_wp2
    first
      | exact Sq.Kept.refl _ _
      | exact ⟨Sq.Kept.refl _ _, hI, rfl⟩
  case body =>
    rintro lr R pre x a' X hRl hrec hbd hsp ⟨hI, rfl⟩ hfx
    obtain ⟨u, hcs, hu⟩ := hI.cs
    have hmem : x.l ∈ cutLs L b := hsp.subset (by simp)
    have hne := (cut_each L b x.l hmem).1
    obtain ⟨xa, xcap, cb, co, C⟩ := x
    obtain ⟨e1, e2, e3, e4, e5⟩ := hfx hne
    simp only at e1 e2 e3 e4 e5 hne hmem ⊢
    subst e1
    have hln : pre.length < (cut L b).length := by
      have := hsp.length_le
      unfold cutLs at this
      simp at this
      omega
    have hC : C = Tb.part L ((cut L b)[pre.length]) := by
      obtain ⟨t, ht⟩ := hsp
      have h1 : (cutLs L b)[pre.length]? = some C := by
        rw [← ht]
        simp
      unfold cutLs at h1
      rw [List.getElem?_map, List.getElem?_eq_getElem hln] at h1
      simpa using h1.symm
    have hfl : ((pre.map (·.l)).flatten ++ C).length ≤ L.length := by
      obtain ⟨t, ht⟩ := hsp
      have h1 := congrArg List.length (congrArg List.flatten ht)
      rw [cut_flat] at h1
      simp at h1 ⊢
      omega
    have hin := (ctN_in b L L.length).2.2 _ (List.getElem_mem hln)
    have hmn : (cut L b).length ≤ L.length := (ctN_in b L L.length).2.1
    obtain ⟨g5, rfl, hg50, hg51⟩ := hai (by omega)
    rw [List.length_append] at hfl
    have h0L : 0 < L.length := by omega
    exact cuts_body lr R T (fun k => k < w3.heap.size ∧ k ≠ B + 1 ∧ k ≠ B + 1 + 1) (COwn ⟨some ⟨cb, co, none⟩, xcap, cb, co, C⟩) pre ⟨some ⟨cb, co, none⟩, xcap, cb, co, C⟩ _ _ w.heap.size B (B + 1) (B + 1 + 1) g5 icap 0 (pre.map (·.l)).flatten C pre.length cb co xcap fb fo cap w3 X L (cut L b) u
      hcs (fun k hk => (hbd k hk).2) (fun k hk => Nat.lt_of_lt_of_le (hTl k hk) hI.old.size) hI.old hI.off ⟨by simp, by simp⟩ hu ⟨by omega, by omega, by omega⟩
      (fun j h => by
        have h1 := own3.cellAt j (by simpa using h)
        rw [List.getElem?_map, List.getElem?_eq_getElem h] at h1
        exact h1)
      ⟨Nat.lt_of_lt_of_le (ha h0L).2 hB3.size, by have := (ha h0L).2; omega, by have := (ha h0L).2; omega⟩ (Nat.lt_of_lt_of_le (ha h0L).2 hB3.size) hcw hln hin.1 hin.2 hC (by omega) (by omega) (by omega)
      (fun k => ⟨fun h => h.2, fun h => ⟨hne, h⟩⟩) e2 e3 e4 e5 hne (fun k hk hr => by have := hTl k hk; have := (hbd k hr).1; omega) (fun k hk => hk.1)
      (fun u' X' h1 h2 h3 => ⟨⟨u', by simpa using h1, h2⟩, h3, hI.off⟩)
  case done =>
    rintro D R ys X hD hRD hys hI hdf
    obtain ⟨u, hcs, hu⟩ := hI.cs
    have hlen : ys.length = (cut L b).length := by have := congrArg List.length hys; simpa [cutLs] using this
    rw [show ys.map (·.l) = cutLs L b from hys, cut_flat, hlen] at hcs
    obtain ⟨c5, c6, c7, f6, f7, l5, l6, l7⟩ := hcs.cells
    have z4 := hI.old.boxed ⟨x4.lt, by omega, by omega⟩ x4
    have c4 := z4.cell
    have f4 := z4.frozen
    have l4 := z4.lt
    have hvA : Vers X.heap.size X u L := Vs.vers_of_own hcs.row
    have hvL : Vers X.heap.size X (.slice a L.length cap) L := ⟨a, cap, fb, fo, rfl, fun h0 => ⟨(ha h0).1, Nat.lt_of_lt_of_le (ha h0).2 (Nat.le_trans hB3.size hI.old.size)⟩, fun j hj => at_kept (hcw j hj) hI.old (by
      have := (ha (by omega)).2
      have := hB3.size
      exact ⟨by omega, by omega, by omega⟩)⟩
    have HSM := Lib.hid (Mt.sameR_eq u (.slice a L.length cap) L X hvA hvL (by omega))
    have HK := Lib.hid hI.old
    have HB3 := Lib.hid hB3
    clear hvA hvL hcs hI z4 hcw
    gi_wp2
    go_wp2_with (go_at_call 11; (with_reducible refine (HSM.out).mono ?_); rintro e x1 ⟨rfl, hb9⟩; have d4 := (hb9.cell (p := ⟨w.heap.size, 0, none⟩) l4).trans c4; have d5 := (hb9.cell (p := ⟨B, 0, none⟩) l5).trans c5; have d7 := (hb9.cell (p := ⟨B + 1 + 1, 0, none⟩) l7).trans c7; have g4 := (World.frozen?_of_block (w := X) (a := ⟨w.heap.size, 0, none⟩) (hb9.block _ l4)).trans f4; have m4 : w.heap.size < x1.heap.size := Nat.lt_of_lt_of_le l4 hb9.size; have hdg := (hb9.block D (Array.getElem?_eq_some_iff.1 hdf).1).trans hdf)
    have hne : D ≠ w.heap.size := fun e => by have := x4.lt; omega
    have k8 : Sq.Kept (fun k => k ≠ w.heap.size) x1 (x1.setCell ⟨w.heap.size, 0, none⟩ (.bool true)) := Sq.Kept.setCell _ _ (by simp)
    have hd9 : (x1.setCell ⟨w.heap.size, 0, none⟩ (.bool true)).heap[D]? = some (.deferred (some [])) := (k8.block D hne (Array.getElem?_eq_some_iff.1 hdg).1).trans hdg
    refine ⟨by simp, .inl ⟨_, _, rfl, run_takeDeferred hd9, ?_⟩⟩
    have c9 : (x1.setCell ⟨w.heap.size, 0, none⟩ (.bool true)).cell? ⟨w.heap.size, 0, none⟩ = some (.bool true) := World.cell?_setCell_same _ _ _ d4
    have k9 := Sq.Kept.putObj (T := fun k => k ≠ D) (x1.setCell ⟨w.heap.size, 0, none⟩ (.bool true)) (l := D) (.deferred none) (by simp)
    have c10 := k9.cell (p := ⟨w.heap.size, 0, none⟩) (Ne.symm hne) c9
    have HBB : Below w.heap.size w ((x1.setCell ⟨w.heap.size, 0, none⟩ (.bool true)).putObj D (.deferred none)) :=
      (((((Sq.Kept.of_below (T := fun k => k < w.heap.size) HB3.out).trans (HK.out.less fun k hk _ => ⟨Nat.lt_of_lt_of_le hk HB3.out.size, by omega, by omega⟩)).trans (Sq.Kept.of_below hb9)).trans (k8.less fun k hk _ => by omega)).trans (k9.less fun k hk _ => by have := HB3.out.size; omega)).below (fun _ h => h) (Nat.le_refl _)
    generalize (x1.setCell ⟨w.heap.size, 0, none⟩ (.bool true)).putObj D (.deferred none) = Z at *
    refine ⟨.bool true, ?_, rfl, HBB⟩
    rw [results_cell1 rfl]
    go_simp
  case stop =>
    rintro D R c pre X hD hRD hsp h hdf
    exact h.elim
end Mg
end Go.Proofs.Ytaohipgfnnclhaa

/-
  Chapter 9: the laws over the landed merge: MergeCuts.
-/
namespace Go.Proofs.Ytaohipgfnnclhaa
open Go.RowKit
set_option linter.unusedVariables false
namespace Mg
open Mt (Ver VerIn)
open Vs (VersIn Vers)
open Tb (VersK)
theorem mergeCuts_law (a : Option Addr) (cap fb fo : Nat) (L : List Ver) (b : Int) (w : World) (hV : VersK w a cap fb fo L) (b0 : -9223372036854775808 ≤ b) (b1 : b ≤ 9223372036854775807) :
    Calls Try.prog 6 #[.slice a L.length cap, .int .i64 b] w fun e w' => e = .returned (.bool true) ∧ Below w.heap.size w w' :=
  mergeCuts_walk cutOk a cap fb fo L b w hV.fits hV.at0 hV.cells hV.most hV.each hV.many ⟨b0, b1⟩
end Mg
end Go.Proofs.Ytaohipgfnnclhaa
