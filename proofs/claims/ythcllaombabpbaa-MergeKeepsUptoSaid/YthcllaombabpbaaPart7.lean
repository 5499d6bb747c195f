import Derived.Test.YthcllaombabpbaaPart6
/-
  The program's merge: groups (a sequence's versions, each with whether a group begins with it).
-/
namespace Go.Proofs.Ythcllaombabpbaa
open Go.RowKit Go.Shelf
set_option linter.unusedSimpArgs false
set_option linter.unusedVariables false
namespace Mg
open Mt (Ver mayB lessB placeB VerIn verV)
open Vs (Vers At vcs)
open Tb (ver0 getD_at own_after lower_row)
attribute [local go_sem] Oper.semAt_some

set_option maxHeartbeats 1000000 in
theorem through_in (n : Nat) (gf : Nat) (lb : Array Value) (w : World) :
    CallsIn Fence.wide n Try.prog 40 #[.func (.func gf) #[] lb] w fun e w' => e = .returned (.func (.func 56) #[] #[.pointer (some ⟨w.heap.size, 0, none⟩)]) ∧ w' = w.alloc (.cells #[.func (.func gf) #[] lb] 26) := by
  refine callsIn_of_wp Try.func40 rfl trivial ?_ rfl
  simp only [Try.ntmps40, List.size_toArray, List.length_cons, List.length_nil, Nat.reduceAdd, Nat.reduceSub, Array.replicate_succ, Array.replicate_zero, List.push_toArray, List.append_toArray, List.nil_append, List.cons_append]
  gi_wp2
  go_ret
  exact ⟨rfl, rfl⟩
set_option maxHeartbeats 1000000 in
theorem groups_in (n : Nat) (gf : Nat) (lb : Array Value) (w : World) :
    CallsIn Fence.wide n Try.prog 31 #[.func (.func gf) #[] lb] w fun e w' => e = .returned (.func (.func 49) #[] #[.pointer (some ⟨w.heap.size, 0, none⟩)]) ∧ w' = w.alloc (.cells #[.func (.func gf) #[] lb] 26) := by
  refine callsIn_of_wp Try.func31 rfl trivial ?_ rfl
  simp only [Try.ntmps31, List.size_toArray, List.length_cons, List.length_nil, Nat.reduceAdd, Nat.reduceSub, Array.replicate_succ, Array.replicate_zero, List.push_toArray, List.append_toArray, List.nil_append, List.cons_append]
  gi_wp2
  go_ret
  exact ⟨rfl, rfl⟩

/-- a row, each version with whether a group begins with it -/
def gp (L : List Ver) : List (Ver × Bool) := (List.range L.length).map fun i => (L.getD i ver0, newG L i)
abbrev gEnc (x : Ver × Bool) : Array Value := #[.agg #[.string (Cd.bs x.1.key), .int .u64 x.1.seq, .bool x.1.del, .string (Cd.bs x.1.val)], .bool x.2]
theorem gp_len (L : List Ver) : (gp L).length = L.length := by simp [gp]
/-- behind the first n -/
def gpN (L : List Ver) (n : Nat) : List (Ver × Bool) := (List.range n).map fun i => (L.getD i ver0, newG L i)
theorem gpN_succ (L : List Ver) (n : Nat) : gpN L (n + 1) = gpN L n ++ [(L.getD n ver0, newG L n)] := by simp [gpN, List.range_succ]
theorem gpN_pre (L : List Ver) (n : Nat) (h : n ≤ L.length) : gpN L n <+: gp L := by
  unfold gpN gp
  obtain ⟨m, hm⟩ : ∃ m, L.length = n + m := ⟨L.length - n, by omega⟩
  rw [hm, List.range_add, List.map_append]
  exact List.prefix_append _ _
theorem gpN_of_pre {L : List Ver} {p : List (Ver × Bool)} (h : p <+: gp L) : p = gpN L p.length ∧ p.length ≤ L.length := by
  have hl := h.length_le
  rw [gp_len] at hl
  refine ⟨?_, hl⟩
  have h2 := gpN_pre L p.length hl
  have := List.prefix_of_prefix_length_le h h2 (by simp [gpN])
  exact this.eq_of_length (by simp [gpN])
/-- the key of the group at hand, whether there is one -/
def kbK (pre : List Ver) : List UInt8 := match pre.getLast? with | none => [] | some y => y.key
def kbB (pre : List Ver) : Bool := match pre.getLast? with | none => false | some _ => true
theorem kb_snoc (pre : List Ver) (x : Ver) : kbK (pre ++ [x]) = x.key ∧ kbB (pre ++ [x]) = true := by simp [kbK, kbB]
theorem newG_kb {L pre : List Ver} {x : Ver} (h : pre ++ [x] <+: L) : newG L pre.length = (!kbB pre || !(x.key == kbK pre)) := by
  rw [newG_pre h]
  unfold kbB kbK
  cases pre.getLast? <;> simp [bne]

theorem steady_size {β : Type} (N : Nat) : Sq.Steady (fun _ (_ : β) (X : World) => N ≤ X.heap.size) := fun _ _ _ _ _ hs st => Nat.le_trans hs st.kept.size

set_option maxRecDepth 100000 in
set_option maxHeartbeats 4000000 in
/-- GROUPS TELLS EACH VERSION WITH WHETHER A GROUP BEGINS WITH IT. -/
theorem groups1_seq (n : Nat) (hn : 8 ≤ n) (sv : Value) (L : List Ver) (T : Sq.Blocks) (hL : ∀ x ∈ L, VerIn x) (B : Nat) (w : World) (hB : Boxed w B 26 sv) (hT : Tells w sv L T) :
    Sq.SeqC Fence.wide n Try.prog 49 #[.pointer (some ⟨B, 0, none⟩)] gEnc (fun k => k = B ∨ T k) (fun ys => ys = gp L) (fun pre => pre <+: gp L) w := by
  intro lp J Jx W hW hJ hJx hY h0
  have hBW := hW.boxed (.inl rfl) hB
  have hcB := hBW.cell
  have hlB := hBW.lt
  obtain ⟨gf, lb, rfl⟩ : ∃ gf lb, sv = .func (.func gf) #[] lb := by obtain ⟨gf, lb, h, _⟩ := hT; exact ⟨gf, lb, h⟩
  have HTW := Lib.hid (hT.kept (hW.less fun k h _ => .inr h))
  have HY := Lib.hid (fun R pre x W1 h1 h2 h3 => (hY R pre x W1 h1 h2 h3))
  clear hY hT
  have hn1 : 1 ≤ n := by omega
  refine callsIn_of_wp_marks Try.func49 rfl trivial ?_ rfl
  simp only [Try.ntmps49, List.size_toArray, List.length_cons, List.length_nil, Nat.reduceAdd, Nat.reduceSub, Array.replicate_succ, Array.replicate_zero, List.push_toArray, List.append_toArray, List.nil_append, List.cons_append]
  gi_upto_region 2 with fail
  have hcB9 : (((W.alloc (.cells #[.func (.yield lp) #[] #[]] 99)).alloc (.cells #[.string ⟨#[]⟩] 9)).alloc (.cells #[.bool false] 4)).cell? ⟨B, 0, none⟩ = some (.func (.func gf) #[] lb) := (((hBW.alloc _).alloc _).alloc _).cell
  generalize hW9 : ((W.alloc (.cells #[.func (.yield lp) #[] #[]] 99)).alloc (.cells #[.string ⟨#[]⟩] 9)).alloc (.cells #[.bool false] 4) = W9 at hcB9 ⊢
  have HW9 := Lib.hid hW9
  have HS9 := Lib.hid (show W9.heap.size = W.heap.size + 3 by rw [← hW9]; simp)
  clear hW9
  gi_wp2_with (refine ⟨trivial, ?_⟩; gi_at_call 40; refine (through_in _ _ _ _).mono ?_; rintro e w' ⟨rfl, rfl⟩)
  rw [HS9.out, ← HW9.out]
  obtain ⟨W0, hW0⟩ : ∃ W0, (((W.alloc (.cells #[.func (.yield lp) #[] #[]] 99)).alloc (.cells #[.string ⟨#[]⟩] 9)).alloc (.cells #[.bool false] 4)).alloc (.cells #[.func (.func gf) #[] lb] 26) = W0 := ⟨_, rfl⟩
  have hsz : W0.heap.size = W.heap.size + 4 := by rw [← hW0]; simp
  have bY : Boxed W0 W.heap.size 99 (.func (.yield lp) #[] #[]) := by rw [← hW0]; exact (((Boxed.new W _ _).alloc _).alloc _).alloc _
  have bK : Boxed W0 (W.heap.size + 1) 9 (.string ⟨#[]⟩) := by
    rw [← hW0]; have := Boxed.new (W.alloc (.cells #[.func (.yield lp) #[] #[]] 99)) 9 (.string ⟨#[]⟩)
    rw [World.size_alloc] at this; exact (this.alloc _).alloc _
  have bG : Boxed W0 (W.heap.size + 2) 4 (.bool false) := by
    rw [← hW0]; have := Boxed.new ((W.alloc (.cells #[.func (.yield lp) #[] #[]] 99)).alloc (.cells #[.string ⟨#[]⟩] 9)) 4 (.bool false)
    rw [World.size_alloc, World.size_alloc] at this; exact this.alloc _
  have bS : Boxed W0 (W.heap.size + 3) 26 (.func (.func gf) #[] lb) := by
    rw [← hW0]; have := Boxed.new (((W.alloc (.cells #[.func (.yield lp) #[] #[]] 99)).alloc (.cells #[.string ⟨#[]⟩] 9)).alloc (.cells #[.bool false] 4)) 26 (.func (.func gf) #[] lb)
    rwa [World.size_alloc, World.size_alloc, World.size_alloc] at this
  obtain ⟨M, hM⟩ : ∃ M : Sq.Blocks, M = fun k => W.heap.size ≤ k ∧ k < W.heap.size + 4 := ⟨_, rfl⟩
  have hMm : ∀ k, M k ↔ W.heap.size ≤ k ∧ k < W.heap.size + 4 := fun k => by rw [hM]
  have hst0 : Sq.Kept (fun _ => True) W W0 := by rw [← hW0]; exact (((Sq.Kept.alloc _ _ _).trans (Sq.Kept.alloc _ _ _)).trans (Sq.Kept.alloc _ _ _)).trans (Sq.Kept.alloc _ _ _)
  have hJ0 : J (fun k => False ∨ M k) [] W0 := hJ _ _ _ _ _ h0 ⟨hst0.less fun _ _ _ => trivial, fun _ h => h.elim, fun k h => h.elim (fun h => h.elim) (fun h => .inr ((hMm k).1 h).1)⟩
  have hT0 := HTW.out.kept (hst0.less fun _ _ _ => trivial)
  have HTL := Lib.hid (show ∀ k, T k → k < W.heap.size from by obtain ⟨gf, lb, _, _, h, _⟩ := HTW.out; exact h)
  rw [hW0]
  clear hW0 hM HW9 hcB9
  refine Sq.wp_range rfl (by omega) (gf := 56) (lb := #[.pointer (some ⟨W.heap.size + 3, 0, none⟩)]) rfl trivial (enters_of Try.func56 (by kernel_rfl) rfl)
    (through1_seq (n - 1) (by omega) (.func (.func gf) #[] lb) L T hL (W.heap.size + 3) W0 bS hT0) (fun k hk => hk.elim (fun h => by omega) (fun h => by have := HTL.out k h; omega)) (fun _ => rfl)
    (fun R pre X => J (fun k => R k ∨ M k) (gpN L pre.length) X ∧ (Boxed X (W.heap.size + 1) 9 (.string (Cd.bs (kbK pre))) ∧ ¬ R (W.heap.size + 1)) ∧ (Boxed X (W.heap.size + 2) 4 (.bool (kbB pre)) ∧ ¬ R (W.heap.size + 2)) ∧ ((Boxed X W.heap.size 99 (.func (.yield lp) #[] #[]) ∧ ¬ R W.heap.size) ∧ W.heap.size + 4 ≤ X.heap.size))
    (fun c R pre X => c = .ret ∧ Jx (fun k => R k ∨ M k) (gpN L pre.length) X)
    (fun a' x R pre X => (J (fun k => R k ∨ M k) (gpN L pre.length) X ∧ (Boxed X (W.heap.size + 1) 9 (.string (Cd.bs (kbK pre))) ∧ ¬ R (W.heap.size + 1)) ∧ (Boxed X (W.heap.size + 2) 4 (.bool (kbB pre)) ∧ ¬ R (W.heap.size + 2)) ∧ ((Boxed X W.heap.size 99 (.func (.yield lp) #[] #[]) ∧ ¬ R W.heap.size) ∧ W.heap.size + 4 ≤ X.heap.size)) ∧
      ∃ Bf, (Ob.Obj X Bf 44 [.string (Cd.bs x.key), .int .u64 x.seq, .bool x.del, .string (Cd.bs x.val)] ∧ ¬ R Bf ∧ ¬ M Bf) ∧
      a' = { tmps := #[.func (.yield lp) #[] #[], .pointer (some ⟨B, 0, none⟩), .pointer (some ⟨W.heap.size, 0, none⟩), .pointer (some ⟨W.heap.size + 1, 0, none⟩), .pointer (some ⟨W.heap.size + 2, 0, none⟩), .pointer (some ⟨Bf, 0, none⟩), undef, .func (.func gf) #[] lb, .func (.func 56) #[] #[.pointer (some ⟨W.heap.size + 3, 0, none⟩)], .agg #[.string (Cd.bs x.key), .int .u64 x.seq, .bool x.del, .string (Cd.bs x.val)], undef, undef, undef, undef, undef, undef, undef, undef, undef, undef, undef, undef, undef, undef, undef, undef, undef], defers := [] })
    ((hJ.or M (fun (l : List Ver) => gpN L l.length)).and ((Sq.Steady.box _ _ _).and ((Sq.Steady.box _ _ _).and ((Sq.Steady.box _ _ _).and (steady_size _)))))
    (fun c => (Sq.Steady.pure _).and (hJx.or M (fun (l : List Ver) => gpN L l.length)))
    (fun a' x => ((hJ.or M (fun (l : List Ver) => gpN L l.length)).and ((Sq.Steady.box _ _ _).and ((Sq.Steady.box _ _ _).and ((Sq.Steady.box _ _ _).and (steady_size _))))).and (Sq.Steady.ex fun Bf => (show Sq.Steady (fun R (_ : List Ver) X => Ob.Obj X Bf 44 [.string (Cd.bs x.key), .int .u64 x.seq, .bool x.del, .string (Cd.bs x.val)] ∧ ¬ R Bf ∧ ¬ M Bf) from fun R R' s X X' h st => by
      obtain ⟨h1, h2⟩ := Sq.step_obj st h.1 h.2.1
      exact ⟨h1, h2, h.2.2⟩).and (fun _ _ _ _ _ hs _ => hs)))
    ⟨hJ0, ⟨bK, fun h => h⟩, ⟨bG, fun h => h⟩, ⟨bY, fun h => h⟩, by omega⟩ ?assign ?body ?done ?stop
  case assign =>
    rintro lr R pre x X hbd hsp ⟨hj, ⟨hk, hnk⟩, ⟨hb, hnb⟩, ⟨hy, hny⟩, hszX⟩
    gi_wp2
    refine ⟨Sq.Kept.alloc _ _ _, ⟨hJ _ _ _ _ _ hj (Sq.Step.alloc0 _ _ _), ⟨hk.alloc _, hnk⟩, ⟨hb.alloc _, hnb⟩, ⟨hy.alloc _, hny⟩, by simp; omega⟩, X.heap.size, ⟨Ob.Obj.new X _ _, fun h => by have := hbd _ h; omega, fun h => by have := (hMm _).1 h; omega⟩, ?_⟩
    first | rfl | trivial
  case body =>
    rintro lr R pre x a' X hRl hrec hbd hsp ⟨⟨hj, ⟨hk, hnk⟩, ⟨hb, hnb⟩, ⟨hy, hny⟩, hszX⟩, Bf, ⟨hf, hnf, hmf⟩, rfl⟩
    have hxi := hL x (hsp.subset (by simp))
    have HCL := Lib.hid (fun X => clone_any (Cd.bs x.key) X (by have := hxi; unfold VerIn at this; show x.key.length ≤ _; omega))
    have hng := newG_kb hsp
    have hpl := pre_len hsp
    have hpa := pre_at hsp
    have hgs := gpN_succ L pre.length
    rw [hpa, hng] at hgs
    have hks := kb_snoc pre x
    have HKS := Lib.hid hks
    have HLEN := Lib.hid (show (pre ++ [x]).length = pre.length + 1 by simp)
    have hdep : 1 ≤ n - 1 - 1 := by omega
    have hMy : M W.heap.size := (hMm _).2 (by omega)
    have hMk : M (W.heap.size + 1) := (hMm _).2 (by omega)
    have hMb : M (W.heap.size + 2) := (hMm _).2 (by omega)
    have hTk : ∀ k, W.heap.size ≤ k → ¬ T k := fun k h1 h => by have := HTL.out _ h; omega
    have hne1 : Bf ≠ W.heap.size + 1 := fun e => hmf (e ▸ hMk)
    have hne2 : Bf ≠ W.heap.size + 2 := fun e => hmf (e ▸ hMb)
    have HSP := Lib.hid (show gpN L pre.length ++ [(x, (!kbB pre || !(x.key == kbK pre)))] <+: gp L by rw [← hgs]; exact gpN_pre L _ (by omega))
    have HGS := Lib.hid hgs
    have HKK := Lib.hid (show ∀ (X3 : World) (X9 : World), Sq.Kept (fun k => R k ∨ (k = W.heap.size + 3 ∨ T k)) X X9 → Sq.Kept (fun k => (R k ∨ M k) ∨ (k = B ∨ T k)) X9 X3 → Sq.Kept (fun k => R k ∨ (k = W.heap.size + 3 ∨ T k)) X X3 from fun X3 X9 h1 h2 => h1.trans (h2.less fun k h _ => by
      rcases h with h | h | h
      · exact .inl (.inl h)
      · exact .inl (.inr (by subst h; exact (hMm _).2 (by omega)))
      · exact .inr (.inr h)))
    have HYY := Lib.hid (fun X9 (hst : Sq.Step (fun k => R k ∨ M k) (fun k => R k ∨ M k) X X9) => Sq.anyDepth rfl (n - 1 - 1 - 1) (HY.out (fun k => R k ∨ M k) (gpN L pre.length) (x, (!kbB pre || !(x.key == kbK pre))) X9 (hJ _ _ _ _ _ hj hst) (fun k h => h.elim (fun h => by have := hbd k h; have := hst.kept.size; omega) (fun h => by have := (hMm k).1 h; have := hst.kept.size; omega)) HSP.out))
    have ck := hk.cell
    have fk := hk.frozen
    have cb := hb.cell
    have fb := hb.frozen
    have cy := hy.cell
    have g0 := hf.cell 0
    have g1 := hf.cell 1
    have g2 := hf.cell 2
    have g3 := hf.cell 3
    simp at g0 g1 g2 g3
    have HK := Lib.hid hk
    have HB := Lib.hid hb
    have HYB := Lib.hid hy
    have HF := Lib.hid hf
    have HJ := Lib.hid hj
    have hltB := hf.lt
    clear hk hb hy hf hj hng hks hgs hsp hpa
    generalize kbK pre = K at *
    generalize kbB pre = G at *
    cases G with
    | false =>
      gi_upto_region 7 with (first
        | (refine ⟨trivial, ?_⟩; gi_at_call 35; refine (CallsIn.inRound lr (callsIn_wide.2 (HCL.out _))).mono ?_; rintro e w9 ⟨rfl, hb9⟩; have hkx : Boxed w9 (W.heap.size + 1) 9 (.string (Cd.bs K)) := Ob.Obj.below (W := X) HK.out hb9; have hbx : Boxed w9 (W.heap.size + 2) 4 (.bool false) := Ob.Obj.below (W := X) HB.out hb9; have hyx : Boxed w9 W.heap.size 99 (.func (.yield lp) #[] #[]) := Ob.Obj.below (W := X) HYB.out hb9; have hfx := HF.out.below hb9; have kc9 := Boxed.cell hkx; have kf9 := Boxed.frozen hkx; have bc9 := Boxed.cell hbx; have bf9 := Boxed.frozen hbx)
        | fail)
      have hstx : Sq.Step (fun k => R k ∨ M k) (fun k => R k ∨ M k) X ((w9.setCell ⟨W.heap.size + 1, 0, none⟩ (.string (Cd.bs x.key))).setCell ⟨W.heap.size + 2, 0, none⟩ (.bool true)) := ((Sq.Step.below hb9).trans (Sq.Step.setCell _ _ (.inr hMk))).trans (Sq.Step.setCell _ _ (.inr hMb))
      have hkept9 : Sq.Kept (fun k => R k ∨ (k = W.heap.size + 3 ∨ T k)) X ((w9.setCell ⟨W.heap.size + 1, 0, none⟩ (.string (Cd.bs x.key))).setCell ⟨W.heap.size + 2, 0, none⟩ (.bool true)) := ((Sq.Kept.of_below hb9).trans (Sq.Kept.setCell _ _ (fun h => h.elim hnk (fun h => h.elim (fun h => by simp at h) (fun h => hTk _ (by simp) h))))).trans (Sq.Kept.setCell _ _ (fun h => h.elim hnb (fun h => h.elim (fun h => by simp at h) (fun h => hTk _ (by simp) h))))
      have hyb9 : Boxed ((w9.setCell ⟨W.heap.size + 1, 0, none⟩ (.string (Cd.bs x.key))).setCell ⟨W.heap.size + 2, 0, none⟩ (.bool true)) W.heap.size 99 (.func (.yield lp) #[] #[]) := (hyx.other (by simp) _).other (by simp) _
      have hkb9 : Boxed ((w9.setCell ⟨W.heap.size + 1, 0, none⟩ (.string (Cd.bs x.key))).setCell ⟨W.heap.size + 2, 0, none⟩ (.bool true)) (W.heap.size + 1) 9 (.string (Cd.bs x.key)) := (hkx.set _).other (by simp) _
      have hbb9 : Boxed ((w9.setCell ⟨W.heap.size + 1, 0, none⟩ (.string (Cd.bs x.key))).setCell ⟨W.heap.size + 2, 0, none⟩ (.bool true)) (W.heap.size + 2) 4 (.bool true) := (Boxed.other hbx (by simp) _).set _
      have hfb9 := (hfx.other (p := ⟨W.heap.size + 1, 0, none⟩) hne1 (.string (Cd.bs x.key))).other (p := ⟨W.heap.size + 2, 0, none⟩) hne2 (.bool true)
      generalize (w9.setCell ⟨W.heap.size + 1, 0, none⟩ (.string (Cd.bs x.key))).setCell ⟨W.heap.size + 2, 0, none⟩ (.bool true) = X9 at hstx hkept9 hyb9 hkb9 hbb9 hfb9 ⊢
      have yc9 := hyb9.cell
      have v0 := hfb9.cell 0
      have v1 := hfb9.cell 1
      have v2 := hfb9.cell 2
      have v3 := hfb9.cell 3
      simp at v0 v1 v2 v3
      obtain ⟨fn, tmps, assign, body, hyy, hR⟩ := HYY.out X9 hstx
      clear hkx hbx hyx hfx kc9 kf9 bc9 bf9 hfb9 hstx
      have hg2 := HGS.out
      simp only [BEq.rfl, Bool.not_true, Bool.not_false, Bool.true_or, Bool.or_true, Bool.false_or] at hyy hR hg2
      have HG2 := Lib.hid hg2
      clear hg2
      have HR := Lib.hid hR
      clear hR
      simp only [gEnc] at hyy
      gi_wp2_with fail
      refine (Sq.round_in lr HR.out).mono ?_
      rintro e X3 (⟨rfl, hj3, hk3⟩ | ⟨rfl, hjx3, hk3⟩)
      · have hyb3 := hk3.boxed (.inl (.inr hMy)) hyb9
        have hkb3 := hk3.boxed (.inl (.inr hMk)) hkb9
        have hbb3 := hk3.boxed (.inl (.inr hMb)) hbb9
        gi_wp2_with fail
        refine ⟨HKK.out X3 _ hkept9 hk3, ?_, ⟨?_, hnk⟩, ⟨?_, hnb⟩, ⟨hyb3, hny⟩, by have := hk3.size; have := hkept9.size; omega⟩
        · show J _ (gpN L (pre ++ [x]).length) _
          rw [HLEN.out, HG2.out]; exact hj3
        · rw [HKS.out.1]; exact hkb3
        · rw [HKS.out.2]; exact hbb3
      · gi_wp2_with fail
        refine ⟨HKK.out X3 _ hkept9 hk3, rfl, ?_⟩
        show Jx _ (gpN L (pre ++ [x]).length) _
        rw [HLEN.out, HG2.out]; exact hjx3
    | true =>
      by_cases hxy : x.key = K
      · subst hxy
        obtain ⟨fn, tmps, assign, body, hyy, hR⟩ := HYY.out X (Sq.Step.refl _ _)
        have hyb9 := HYB.out
        have hkb9 := HK.out
        have hbb9 := HB.out
        have hkept9 := Sq.Kept.refl (fun k => R k ∨ (k = W.heap.size + 3 ∨ T k)) X
        have hg2 := HGS.out
        simp only [BEq.rfl, Bool.not_true, Bool.or_false] at hyy hR hg2
        have HG2 := Lib.hid hg2
        clear hg2
        have HR := Lib.hid hR
        clear hR
        simp only [gEnc] at hyy
        gi_wp2_with fail
        refine (Sq.round_in lr HR.out).mono ?_
        rintro e X3 (⟨rfl, hj3, hk3⟩ | ⟨rfl, hjx3, hk3⟩)
        · have hyb3 := hk3.boxed (.inl (.inr hMy)) hyb9
          have hkb3 := hk3.boxed (.inl (.inr hMk)) hkb9
          have hbb3 := hk3.boxed (.inl (.inr hMb)) hbb9
          gi_wp2_with fail
          refine ⟨HKK.out X3 _ hkept9 hk3, ?_, ⟨?_, hnk⟩, ⟨?_, hnb⟩, ⟨hyb3, hny⟩, by have := hk3.size; have := hkept9.size; omega⟩
          · show J _ (gpN L (pre ++ [x]).length) _
            rw [HLEN.out, HG2.out]; exact hj3
          · rw [HKS.out.1]; exact hkb3
          · rw [HKS.out.2]; exact hbb3
        · gi_wp2_with fail
          refine ⟨HKK.out X3 _ hkept9 hk3, rfl, ?_⟩
          show Jx _ (gpN L (pre ++ [x]).length) _
          rw [HLEN.out, HG2.out]; exact hjx3
      · have hne : (x.key == K) = false := by simpa using hxy
        gi_upto_region 7 with (first
          | (refine ⟨trivial, ?_⟩; gi_at_call 35; refine (CallsIn.inRound lr (callsIn_wide.2 (HCL.out _))).mono ?_; rintro e w9 ⟨rfl, hb9⟩; have hkx : Boxed w9 (W.heap.size + 1) 9 (.string (Cd.bs K)) := Ob.Obj.below (W := X) HK.out hb9; have hbx : Boxed w9 (W.heap.size + 2) 4 (.bool true) := Ob.Obj.below (W := X) HB.out hb9; have hyx : Boxed w9 W.heap.size 99 (.func (.yield lp) #[] #[]) := Ob.Obj.below (W := X) HYB.out hb9; have hfx := HF.out.below hb9; have kc9 := Boxed.cell hkx; have kf9 := Boxed.frozen hkx; have bc9 := Boxed.cell hbx; have bf9 := Boxed.frozen hbx)
          | fail)
        have hstx : Sq.Step (fun k => R k ∨ M k) (fun k => R k ∨ M k) X ((w9.setCell ⟨W.heap.size + 1, 0, none⟩ (.string (Cd.bs x.key))).setCell ⟨W.heap.size + 2, 0, none⟩ (.bool true)) := ((Sq.Step.below hb9).trans (Sq.Step.setCell _ _ (.inr hMk))).trans (Sq.Step.setCell _ _ (.inr hMb))
        have hkept9 : Sq.Kept (fun k => R k ∨ (k = W.heap.size + 3 ∨ T k)) X ((w9.setCell ⟨W.heap.size + 1, 0, none⟩ (.string (Cd.bs x.key))).setCell ⟨W.heap.size + 2, 0, none⟩ (.bool true)) := ((Sq.Kept.of_below hb9).trans (Sq.Kept.setCell _ _ (fun h => h.elim hnk (fun h => h.elim (fun h => by simp at h) (fun h => hTk _ (by simp) h))))).trans (Sq.Kept.setCell _ _ (fun h => h.elim hnb (fun h => h.elim (fun h => by simp at h) (fun h => hTk _ (by simp) h))))
        have hyb9 : Boxed ((w9.setCell ⟨W.heap.size + 1, 0, none⟩ (.string (Cd.bs x.key))).setCell ⟨W.heap.size + 2, 0, none⟩ (.bool true)) W.heap.size 99 (.func (.yield lp) #[] #[]) := (hyx.other (by simp) _).other (by simp) _
        have hkb9 : Boxed ((w9.setCell ⟨W.heap.size + 1, 0, none⟩ (.string (Cd.bs x.key))).setCell ⟨W.heap.size + 2, 0, none⟩ (.bool true)) (W.heap.size + 1) 9 (.string (Cd.bs x.key)) := (hkx.set _).other (by simp) _
        have hbb9 : Boxed ((w9.setCell ⟨W.heap.size + 1, 0, none⟩ (.string (Cd.bs x.key))).setCell ⟨W.heap.size + 2, 0, none⟩ (.bool true)) (W.heap.size + 2) 4 (.bool true) := (Boxed.other hbx (by simp) _).set _
        have hfb9 := (hfx.other (p := ⟨W.heap.size + 1, 0, none⟩) hne1 (.string (Cd.bs x.key))).other (p := ⟨W.heap.size + 2, 0, none⟩) hne2 (.bool true)
        generalize (w9.setCell ⟨W.heap.size + 1, 0, none⟩ (.string (Cd.bs x.key))).setCell ⟨W.heap.size + 2, 0, none⟩ (.bool true) = X9 at hstx hkept9 hyb9 hkb9 hbb9 hfb9 ⊢
        have yc9 := hyb9.cell
        have v0 := hfb9.cell 0
        have v1 := hfb9.cell 1
        have v2 := hfb9.cell 2
        have v3 := hfb9.cell 3
        simp at v0 v1 v2 v3
        obtain ⟨fn, tmps, assign, body, hyy, hR⟩ := HYY.out X9 hstx
        clear hkx hbx hyx hfx kc9 kf9 bc9 bf9 hfb9 hstx
        have hg2 := HGS.out
        simp only [hne, Bool.not_true, Bool.not_false, Bool.true_or, Bool.or_true, Bool.false_or] at hyy hR hg2
        have HG2 := Lib.hid hg2
        clear hg2
        have HR := Lib.hid hR
        clear hR
        simp only [gEnc] at hyy
        gi_wp2_with fail
        refine (Sq.round_in lr HR.out).mono ?_
        rintro e X3 (⟨rfl, hj3, hk3⟩ | ⟨rfl, hjx3, hk3⟩)
        · have hyb3 := hk3.boxed (.inl (.inr hMy)) hyb9
          have hkb3 := hk3.boxed (.inl (.inr hMk)) hkb9
          have hbb3 := hk3.boxed (.inl (.inr hMb)) hbb9
          gi_wp2_with fail
          refine ⟨HKK.out X3 _ hkept9 hk3, ?_, ⟨?_, hnk⟩, ⟨?_, hnb⟩, ⟨hyb3, hny⟩, by have := hk3.size; have := hkept9.size; omega⟩
          · show J _ (gpN L (pre ++ [x]).length) _
            rw [HLEN.out, HG2.out]; exact hj3
          · rw [HKS.out.1]; exact hkb3
          · rw [HKS.out.2]; exact hbb3
        · gi_wp2_with fail
          refine ⟨HKK.out X3 _ hkept9 hk3, rfl, ?_⟩
          show Jx _ (gpN L (pre ++ [x]).length) _
          rw [HLEN.out, HG2.out]; exact hjx3
  case done =>
    rintro D R ys X hD hRD rfl ⟨hj, _, _⟩ hdf
    gi_wp2
    refine ⟨by simp, .inl ⟨_, _, rfl, run_takeDeferred hdf, ?_⟩⟩
    exact ⟨_, results_none rfl _ _ _, ⟨_, rfl⟩, .inl ⟨_, _, rfl, hJ _ _ _ _ _ hj (Sq.Step.putObj _ _ (.inl hRD))⟩⟩
  case stop =>
    rintro D R c pre X hD hRD hsp ⟨rfl, hj⟩ hdf
    gi_wp2
    refine ⟨by simp, .inl ⟨_, _, rfl, run_takeDeferred hdf, ?_⟩⟩
    exact ⟨_, results_none rfl _ _ _, ⟨_, rfl⟩, .inr ⟨_, _, gpN_pre L _ (by have := hsp.length_le; omega), hJx _ _ _ _ _ hj (Sq.Step.putObj _ _ (.inl hRD))⟩⟩
end Mg
end Go.Proofs.Ythcllaombabpbaa

/-
  The program's merge: Pairs.
-/
namespace Go.Proofs.Ythcllaombabpbaa
open Go.RowKit Go.Shelf
set_option linter.unusedSimpArgs false
set_option linter.unusedVariables false
namespace Mg
open Mt (Ver mayB lessB placeB VerIn verV)
open Vs (Vers At vcs)
open Tb (ver0 getD_at own_after lower_row)
attribute [local go_sem] Oper.semAt_some

theorem gp_at {L : List Ver} {pre : List (Ver × Bool)} {x : Ver × Bool} (h : pre ++ [x] <+: gp L) : pre.length < L.length ∧ x.1 = L.getD pre.length ver0 ∧ x.2 = newG L pre.length ∧ L.take pre.length ++ [x.1] <+: L ∧ pre <+: gp L ∧ x.1 ∈ L := by
  obtain ⟨h1, h2⟩ := gpN_of_pre h
  simp at h2
  rw [List.length_append, List.length_singleton, gpN_succ] at h1
  obtain ⟨h3, h4⟩ := List.append_inj' h1 rfl
  simp at h4
  have hlt : pre.length < L.length := by omega
  have hx : x.1 = L.getD pre.length ver0 := by rw [h4]; simp [List.getD_eq_getElem?_getD]
  refine ⟨hlt, hx, by rw [h4], ?_, (List.prefix_append _ _).trans h, ?_⟩
  · rw [hx, getD_at hlt, ← List.take_succ_eq_append_getElem hlt]; exact List.take_prefix _ _
  · rw [hx, getD_at hlt]; exact List.getElem_mem _
/-- one version more -/
theorem pr_next (seq : Int) (lo : List UInt8) (L : List Ver) (n : Nat) (v : Ver) (hv : v = L.getD n ver0) :
    prN seq lo L (n + 1) = if ((!newG L n && (prN seq lo L n).2) || (Op.bytesLess v.key lo || decide (seq < v.seq))) = true then ((prN seq lo L n).1, (!newG L n && (prN seq lo L n).2)) else ((prN seq lo L n).1 ++ (if v.del = true then [] else [(v.key, v.val)]), true) := by
  rw [prN_succ]
  unfold prStep
  subst hv
  congr 1
  simp only [Bool.or_eq_true, Bool.and_eq_true, Bool.not_eq_true', decide_eq_true_eq]

/-- what Pairs closes over -/
structure PrC (W : World) (bs bh bl bq : Nat) (sv : Value) (hi lo : List UInt8) (seq : Int) : Prop where
  s : Boxed W bs 26 sv
  h : Boxed W bh 9 (.string (Cd.bs hi))
  l : Boxed W bl 9 (.string (Cd.bs lo))
  q : Boxed W bq 39 (.int .u64 seq)
abbrev prT (bs bh bl bq : Nat) (T : Sq.Blocks) : Sq.Blocks := fun k => (k = bs ∨ k = bh ∨ k = bl ∨ k = bq) ∨ T k
theorem PrC.kept {W W' : World} {bs bh bl bq : Nat} {sv : Value} {hi lo : List UInt8} {seq : Int} {T : Sq.Blocks} (h : PrC W bs bh bl bq sv hi lo seq) (hk : Sq.Kept (prT bs bh bl bq T) W W') : PrC W' bs bh bl bq sv hi lo seq :=
  ⟨hk.boxed (.inl (.inl rfl)) h.s, hk.boxed (.inl (.inr (.inl rfl))) h.h, hk.boxed (.inl (.inr (.inr (.inl rfl)))) h.l, hk.boxed (.inl (.inr (.inr (.inr rfl)))) h.q⟩

/-- between the rounds -/
structure PrI (L : List Ver) (seq : Int) (lo hi : List UInt8) (J : Sq.Blocks → List Pr → World → Prop) (M : Sq.Blocks) (W : World) (lp bh bl bq : Nat) (R : Sq.Blocks) (pre : List (Ver × Bool)) (X : World) : Prop where
  j : J (fun k => R k ∨ M k) (prN seq lo L pre.length).1 X
  f : Boxed X (W.heap.size + 1) 4 (.bool (prN seq lo L pre.length).2) ∧ ¬ R (W.heap.size + 1)
  y : Boxed X W.heap.size 80 (.func (.yield lp) #[] #[]) ∧ ¬ R W.heap.size
  h : Boxed X bh 9 (.string (Cd.bs hi)) ∧ ¬ R bh
  l : Boxed X bl 9 (.string (Cd.bs lo)) ∧ ¬ R bl
  q : Boxed X bq 39 (.int .u64 seq) ∧ ¬ R bq
  size : W.heap.size + 3 ≤ X.heap.size
  all : ∀ v ∈ L.take pre.length, (hi.isEmpty || Op.bytesLess v.key hi) = true
theorem PrI.steady {L : List Ver} {seq : Int} {lo hi : List UInt8} {J : Sq.Blocks → List Pr → World → Prop} {M : Sq.Blocks} {W : World} {lp bh bl bq : Nat} (hJ : Sq.Steady J) : Sq.Steady (PrI L seq lo hi J M W lp bh bl bq) :=
  fun R R' s X X' h st => ⟨hJ _ _ _ _ _ h.j (st.or M), Sq.step_obj st h.f.1 h.f.2, Sq.step_obj st h.y.1 h.y.2, Sq.step_obj st h.h.1 h.h.2, Sq.step_obj st h.l.1 h.l.2, Sq.step_obj st h.q.1 h.q.2, Nat.le_trans h.size st.kept.size, h.all⟩

set_option maxRecDepth 100000 in
set_option maxHeartbeats 4000000 in
/-- PAIRS TELLS WHAT IS SEEN. -/
theorem pairs1_seq (n : Nat) (hn : 11 ≤ n) (sv : Value) (L : List Ver) (T : Sq.Blocks) (hL : ∀ x ∈ L, VerIn x) (seq : Int) (hq : 0 ≤ seq ∧ seq ≤ 18446744073709551615) (lo hi : List UInt8) (bs bh bl bq : Nat) (w : World) (hC : PrC w bs bh bl bq sv hi lo seq) (hT : Tells w sv L T) :
    Sq.SeqC Fence.wide n Try.prog 36 #[.pointer (some ⟨bs, 0, none⟩), .pointer (some ⟨bh, 0, none⟩), .pointer (some ⟨bl, 0, none⟩), .pointer (some ⟨bq, 0, none⟩)] pEnc9 (prT bs bh bl bq T) (fun ys => ys = pairs L seq lo hi) (fun pre => pre <+: pairs L seq lo hi) w := by
  intro lp J Jx W hW hJ hJx hY h0
  have hCW := hC.kept hW
  obtain ⟨gf, lb, rfl⟩ : ∃ gf lb, sv = .func (.func gf) #[] lb := by obtain ⟨gf, lb, h, _⟩ := hT; exact ⟨gf, lb, h⟩
  have HTW := Lib.hid (hT.kept (hW.less fun k h _ => .inr h))
  have HY := Lib.hid (fun R pre x W1 h1 h2 h3 => (hY R pre x W1 h1 h2 h3))
  clear hY hT
  have hn1 : 1 ≤ n := by omega
  have l1 := hCW.h.lt
  have l2 := hCW.l.lt
  have l3 := hCW.q.lt
  have l4 := hCW.s.lt
  refine callsIn_of_wp_marks Try.func36 rfl trivial ?_ rfl
  simp only [Try.ntmps36, List.size_toArray, List.length_cons, List.length_nil, Nat.reduceAdd, Nat.reduceSub, Array.replicate_succ, Array.replicate_zero, List.push_toArray, List.append_toArray, List.nil_append, List.cons_append]
  gi_upto_region 2 with fail
  obtain ⟨W9, hW9⟩ : ∃ W9, (W.alloc (.cells #[.func (.yield lp) #[] #[]] 80)).alloc (.cells #[.bool false] 4) = W9 := ⟨_, rfl⟩
  have hcB9 : W9.cell? ⟨bs, 0, none⟩ = some (.func (.func gf) #[] lb) := by rw [← hW9]; exact ((hCW.s.alloc _).alloc _).cell
  have bY : Boxed W9 W.heap.size 80 (.func (.yield lp) #[] #[]) := by rw [← hW9]; exact (Boxed.new W _ _).alloc _
  have bA : Boxed W9 (W.heap.size + 1) 4 (.bool false) := by
    rw [← hW9]; have := Boxed.new (W.alloc (.cells #[.func (.yield lp) #[] #[]] 80)) 4 (.bool false)
    rwa [World.size_alloc] at this
  have HS9 := Lib.hid (show W9.heap.size = W.heap.size + 2 by rw [← hW9]; simp)
  have hst9 : Sq.Kept (fun _ => True) W W9 := by rw [← hW9]; exact (Sq.Kept.alloc _ _ _).trans (Sq.Kept.alloc _ _ _)
  rw [hW9]
  clear hW9
  have HST9 := Lib.hid hst9
  have HBY := Lib.hid bY
  have HBA := Lib.hid bA
  clear hst9 bY bA
  gi_wp2_with (refine ⟨trivial, ?_⟩; gi_at_call 31; refine (groups_in _ _ _ _).mono ?_; rintro e w' ⟨rfl, rfl⟩)
  rw [HS9.out]
  obtain ⟨W0, hW0⟩ : ∃ W0, W9.alloc (.cells #[.func (.func gf) #[] lb] 26) = W0 := ⟨_, rfl⟩
  have hsz : W0.heap.size = W.heap.size + 3 := by rw [← hW0, World.size_alloc, HS9.out]
  have bY : Boxed W0 W.heap.size 80 (.func (.yield lp) #[] #[]) := by rw [← hW0]; exact HBY.out.alloc _
  have bA : Boxed W0 (W.heap.size + 1) 4 (.bool false) := by rw [← hW0]; exact HBA.out.alloc _
  have bS : Boxed W0 (W.heap.size + 2) 26 (.func (.func gf) #[] lb) := by rw [← hW0, ← HS9.out]; exact Boxed.new W9 _ _
  obtain ⟨M, hM⟩ : ∃ M : Sq.Blocks, M = fun k => W.heap.size ≤ k ∧ k < W.heap.size + 3 := ⟨_, rfl⟩
  have hMm : ∀ k, M k ↔ W.heap.size ≤ k ∧ k < W.heap.size + 3 := fun k => by rw [hM]
  have hst0 : Sq.Kept (fun _ => True) W W0 := by rw [← hW0]; exact HST9.out.trans (Sq.Kept.alloc _ _ _)
  have hJ0 : J (fun k => False ∨ M k) [] W0 := hJ _ _ _ _ _ h0 ⟨hst0.less fun _ _ _ => trivial, fun _ h => h.elim, fun k h => h.elim (fun h => h.elim) (fun h => .inr ((hMm k).1 h).1)⟩
  have hT0 := HTW.out.kept (hst0.less fun _ _ _ => trivial)
  have HTL := Lib.hid (show ∀ k, T k → k < W.heap.size from by obtain ⟨gf, lb, _, _, h, _⟩ := HTW.out; exact h)
  have bH : Boxed W0 bh 9 (.string (Cd.bs hi)) := hst0.boxed trivial hCW.h
  have bL : Boxed W0 bl 9 (.string (Cd.bs lo)) := hst0.boxed trivial hCW.l
  have bQ : Boxed W0 bq 39 (.int .u64 seq) := hst0.boxed trivial hCW.q
  rw [hW0]
  clear hW0 hM HS9 hcB9 HST9 HBY HBA
  refine Sq.wp_range rfl (by omega) (gf := 49) (lb := #[.pointer (some ⟨W.heap.size + 2, 0, none⟩)]) rfl trivial (enters_of Try.func49 (by kernel_rfl) rfl)
    (groups1_seq (n - 1) (by omega) (.func (.func gf) #[] lb) L T hL (W.heap.size + 2) W0 bS hT0) (fun k hk => hk.elim (fun h => by omega) (fun h => by have := HTL.out k h; omega)) (fun _ => rfl)
    (PrI L seq lo hi J M W lp bh bl bq)
    (fun c R pre X => c = .ret ∧ (J (fun k => R k ∨ M k) (pairs L seq lo hi) X ∨ ∃ p, p <+: pairs L seq lo hi ∧ Jx (fun k => R k ∨ M k) p X))
    (fun a' x R pre X => PrI L seq lo hi J M W lp bh bl bq R pre X ∧
      ∃ Bf, (Ob.Obj X Bf 44 [.string (Cd.bs x.1.key), .int .u64 x.1.seq, .bool x.1.del, .string (Cd.bs x.1.val)] ∧ ¬ R Bf ∧ ¬ M Bf) ∧
      a' = { tmps := #[.func (.yield lp) #[] #[], .pointer (some ⟨bs, 0, none⟩), .pointer (some ⟨bh, 0, none⟩), .pointer (some ⟨bl, 0, none⟩), .pointer (some ⟨bq, 0, none⟩), .pointer (some ⟨W.heap.size, 0, none⟩), .pointer (some ⟨W.heap.size + 1, 0, none⟩), .pointer (some ⟨Bf, 0, none⟩), .bool x.2, .func (.func gf) #[] lb, .func (.func 49) #[] #[.pointer (some ⟨W.heap.size + 2, 0, none⟩)], .agg #[.string (Cd.bs x.1.key), .int .u64 x.1.seq, .bool x.1.del, .string (Cd.bs x.1.val)], .bool x.2, undef, undef, undef, undef, undef, undef, undef, undef, undef, undef, undef, undef, undef, undef, undef, undef, undef, undef, undef, undef, undef, undef, undef, undef, undef, undef, undef, undef, undef, undef, undef, undef, undef, undef, undef], defers := [] })
    (PrI.steady hJ)
    (fun c R R' s X X' h st => ⟨h.1, h.2.elim (fun h => .inl (hJ _ _ _ _ _ h (st.or M))) (fun ⟨p, h1, h2⟩ => .inr ⟨p, h1, hJx _ _ _ _ _ h2 (st.or M)⟩)⟩)
    (fun a' x => (PrI.steady hJ).and (Sq.Steady.ex fun Bf => (show Sq.Steady (fun R (_ : List (Ver × Bool)) X => Ob.Obj X Bf 44 [.string (Cd.bs x.1.key), .int .u64 x.1.seq, .bool x.1.del, .string (Cd.bs x.1.val)] ∧ ¬ R Bf ∧ ¬ M Bf) from fun R R' s X X' h st => by
      obtain ⟨h1, h2⟩ := Sq.step_obj st h.1 h.2.1
      exact ⟨h1, h2, h.2.2⟩).and (fun _ _ _ _ _ hs _ => hs)))
    ⟨hJ0, ⟨bA, fun h => h⟩, ⟨bY, fun h => h⟩, ⟨bH, fun h => h⟩, ⟨bL, fun h => h⟩, ⟨bQ, fun h => h⟩, by omega, fun v hv => by simp at hv⟩ ?assign ?body ?done ?stop
  case assign =>
    rintro lr R pre x X hbd hsp hi'
    have hszX := hi'.size
    gi_wp2
    refine ⟨Sq.Kept.alloc _ _ _, PrI.steady hJ _ _ _ _ _ hi' (Sq.Step.alloc0 _ _ _), X.heap.size, ⟨Ob.Obj.new X _ _, fun h => by have := hbd _ h; omega, fun h => by have := (hMm _).1 h; omega⟩, ?_⟩
    first | rfl | trivial
  case body =>
    rintro lr R pre x a' X hRl hrec hbd hsp ⟨hI, Bf, ⟨hf, hnf, hmf⟩, rfl⟩
    obtain ⟨hlt, hx1, hx2, hpre, _, hmem⟩ := gp_at hsp
    have hxi := hL x.1 hmem
    have hnx := pr_next seq lo L pre.length x.1 hx1
    rw [← hx2] at hnx
    have hall := hI.all
    have HJ := Lib.hid hI.j
    obtain ⟨hb, hnb⟩ := hI.f
    obtain ⟨hy, hny⟩ := hI.y
    obtain ⟨hh, hnh⟩ := hI.h
    obtain ⟨hl, hnl⟩ := hI.l
    obtain ⟨hqb, hnq⟩ := hI.q
    have hszX := hI.size
    have hstop : (hi.isEmpty || Op.bytesLess x.1.key hi) = false → pairs L seq lo hi = (prN seq lo L pre.length).1 := fun h => by
      have := pairs_stop (seq := seq) (lo := lo) hpre hall h
      rwa [List.length_take, Nat.min_eq_left (by omega)] at this
    have hall2 : (hi.isEmpty || Op.bytesLess x.1.key hi) = true → ∀ v ∈ L.take (pre ++ [x]).length, (hi.isEmpty || Op.bytesLess v.key hi) = true := fun h v hv => by
      rw [List.length_append, List.length_singleton, List.take_succ_eq_append_getElem hlt] at hv
      rcases List.mem_append.1 hv with hv | hv
      · exact hall v hv
      · rw [List.mem_singleton] at hv
        rw [hv, ← getD_at hlt, ← hx1]; exact h
    have hgrow : (hi.isEmpty || Op.bytesLess x.1.key hi) = true → (prN seq lo L (pre.length + 1)).1 <+: pairs L seq lo hi := fun h => by
      have h2 := hall2 h
      rw [List.length_append, List.length_singleton] at h2
      have := pairs_grows (seq := seq) (lo := lo) (List.take_prefix (pre.length + 1) L) h2
      rwa [List.length_take, Nat.min_eq_left (by omega)] at this
    have HLEN := Lib.hid (show (pre ++ [x]).length = pre.length + 1 by simp)
    have HSTOP := Lib.hid hstop
    have HALL := Lib.hid hall2
    have HGROW := Lib.hid hgrow
    have HNX := Lib.hid hnx
    have HSPL := Lib.hid hlt
    clear hI hx1 hx2 hpre hall hstop hall2 hgrow hnx hmem hsp hlt
    have hMy : M W.heap.size := (hMm _).2 (by omega)
    have hMb : M (W.heap.size + 1) := (hMm _).2 (by omega)
    have hTk : ∀ k, W.heap.size ≤ k → ¬ (k = W.heap.size + 2 ∨ T k) → True := fun _ _ _ => trivial
    have hTb : ¬ T (W.heap.size + 1) := fun h => by have := HTL.out _ h; omega
    have hneb : Bf ≠ W.heap.size + 1 := fun e => hmf (e ▸ hMb)
    have HKK := Lib.hid (show ∀ (X3 : World) (X9 : World), Sq.Kept (fun k => R k ∨ (k = W.heap.size + 2 ∨ T k)) X X9 → Sq.Kept (fun k => (R k ∨ M k) ∨ prT bs bh bl bq T k) X9 X3 → Sq.Kept (fun k => R k ∨ (k = W.heap.size + 2 ∨ T k)) X X3 from fun X3 X9 h1 h2 => h1.trans (h2.less fun k h _ => by
      rcases h with h | h | h
      · exact .inl (.inl h)
      · exact .inl (.inr (by subst h; exact (hMm _).2 (by omega)))
      · exact .inr (.inr h)))
    have HYY := Lib.hid (fun (p : Pr) X9 (hst : Sq.Step (fun k => R k ∨ M k) (fun k => R k ∨ M k) X X9) (hp : (prN seq lo L pre.length).1 ++ [p] <+: pairs L seq lo hi) => Sq.anyDepth rfl (n - 1 - 1 - 1) (HY.out (fun k => R k ∨ M k) (prN seq lo L pre.length).1 p X9 (hJ _ _ _ _ _ HJ.out hst) (fun k h => h.elim (fun h => by have := hbd k h; have := hst.kept.size; omega) (fun h => by have := (hMm k).1 h; have := hst.kept.size; omega)) hp))
    have cb := hb.cell
    have fb := hb.frozen
    have cy := hy.cell
    have ch := hh.cell
    have cl := hl.cell
    have cq := hqb.cell
    have g0 := hf.cell 0
    have g1 := hf.cell 1
    have g2 := hf.cell 2
    have g3 := hf.cell 3
    simp at g0 g1 g2 g3
    have HB := Lib.hid hb
    have HYB := Lib.hid hy
    have HH := Lib.hid hh
    have HL := Lib.hid hl
    have HQ := Lib.hid hqb
    have HF := Lib.hid hf
    have hltB := hf.lt
    clear hb hy hh hl hqb hf
    have HMm := Lib.hid hMm
    clear hMm
    obtain ⟨⟨xk, xs, xd, xv⟩, F⟩ := x
    simp only at g0 g1 g2 g3
    have HXI := Lib.hid hxi
    clear hxi
    generalize prN seq lo L pre.length = PF at *
    obtain ⟨P, f0⟩ := PF
    have hdep : 1 ≤ n - 1 - 1 := by omega
    dsimp only
    gi_upto_region 5 with fail
    gi_cut [20] from 13 (fun u wx => u = .bool (!(hi.isEmpty || Op.bytesLess xk hi)) ∧ wx = X)
    case first =>
      by_cases hh : hi.isEmpty = true
      · have hE : hi = [] := by simpa using hh
        subst hE
        gi_wp2_with fail
        gi_meet
        exact ⟨by simp, rfl⟩
      · have hh1 : hi.isEmpty = false := by simpa using hh
        have hne : ¬ hi = [] := by intro h; subst h; simp at hh1
        cases hh2 : Op.bytesLess xk hi with
        | true =>
          gi_wp2_with fail
          gi_meet
          exact ⟨by simp [hh1, hh2], rfl⟩
        | false =>
          gi_wp2_with fail
          gi_meet
          exact ⟨by simp [hh1, hh2], rfl⟩
    case rest =>
      obtain ⟨rfl, rfl⟩ := hcut
      cases hbad : (hi.isEmpty || Op.bytesLess xk hi) with
      | false =>
        rw [Bool.not_false]
        gi_wp2_with fail
        exact ⟨Sq.Kept.refl _ _, rfl, .inl (by rw [HSTOP.out hbad]; exact HJ.out)⟩
      | true =>
        rw [Bool.not_true]
        gi_upto_region 6 with fail
        obtain ⟨X0, rfl⟩ : ∃ X0 : World, X0 = wc := ⟨_, rfl⟩
        cases F with
        | true =>
          have hst2 : Sq.Step (fun k => R k ∨ M k) (fun k => R k ∨ M k) X0 (X0.setCell ⟨W.heap.size + 1, 0, none⟩ (.bool false)) := Sq.Step.setCell _ _ (.inr hMb)
          have hk2 : Sq.Kept (fun k => R k ∨ (k = W.heap.size + 2 ∨ T k)) X0 (X0.setCell ⟨W.heap.size + 1, 0, none⟩ (.bool false)) := Sq.Kept.setCell _ _ (fun h => h.elim hnb (fun h => h.elim (fun h => by simp at h) hTb))
          have b2 : Boxed (X0.setCell ⟨W.heap.size + 1, 0, none⟩ (.bool false)) (W.heap.size + 1) 4 (.bool false) := HB.out.set _
          have y2 : Boxed (X0.setCell ⟨W.heap.size + 1, 0, none⟩ (.bool false)) W.heap.size 80 (.func (.yield lp) #[] #[]) := HYB.out.other (by simp) _
          have h2' : Boxed (X0.setCell ⟨W.heap.size + 1, 0, none⟩ (.bool false)) bh 9 (.string (Cd.bs hi)) := HH.out.other (by omega) _
          have l2' : Boxed (X0.setCell ⟨W.heap.size + 1, 0, none⟩ (.bool false)) bl 9 (.string (Cd.bs lo)) := HL.out.other (by omega) _
          have q2 : Boxed (X0.setCell ⟨W.heap.size + 1, 0, none⟩ (.bool false)) bq 39 (.int .u64 seq) := HQ.out.other (by omega) _
          have o2 := HF.out.other (p := ⟨W.heap.size + 1, 0, none⟩) hneb (.bool false)
          gi_upto_region 8 with fail
          generalize X0.setCell ⟨W.heap.size + 1, 0, none⟩ (.bool false) = X2 at *
          have c2b := b2.cell
          have f2b := b2.frozen
          have c2y := y2.cell
          have c2l := l2'.cell
          have c2q := q2.cell
          have v0 := o2.cell 0
          have v1 := o2.cell 1
          have v2 := o2.cell 2
          have v3 := o2.cell 3
          simp at v0 v1 v2 v3
          have HB2 := Lib.hid b2
          have HY2 := Lib.hid y2
          have HH2 := Lib.hid h2'
          have HL2 := Lib.hid l2'
          have HQ2 := Lib.hid q2
          have HO2 := Lib.hid o2
          have HST2 := Lib.hid hst2
          have HK2 := Lib.hid hk2
          have hlt2 := y2.lt
          have hszX2 := hk2.size
          clear b2 y2 h2' l2' q2 o2 hst2 hk2 cb fb cy ch cl cq g0 g1 g2 g3
          gi_cut [34] from 22 (fun u wx => u = .bool (false || (Op.bytesLess xk lo || decide (seq < xs))) ∧ wx = X2)
          case first =>
            cases hlo : Op.bytesLess xk lo with
            | true =>
              gi_wp2_with fail
              gi_meet
              exact ⟨by simp [hlo], rfl⟩
            | false =>
              by_cases hsq : seq < xs
              · have hsq2 : decide (seq < xs) = true := by simpa using hsq
                gi_wp2_with fail
                gi_meet
                exact ⟨by simp [hlo, hsq], rfl⟩
              · have hsq2 : decide (seq < xs) = false := by simpa using hsq
                gi_wp2_with fail
                gi_meet
                exact ⟨by simp [hlo, hsq], rfl⟩
          case rest =>
            obtain ⟨rfl, rfl⟩ := hcut
            cases hsk : (false || (Op.bytesLess xk lo || decide (seq < xs))) with
            | true =>
              have HN2 := Lib.hid (show prN seq lo L (pre.length + 1) = (P, false) by rw [HNX.out, if_pos (by simpa using hsk)]; simp)
              clear hsk
              gi_wp2_with fail
              refine ⟨HK2.out, ?_, ?_, ⟨HY2.out, hny⟩, ⟨HH2.out, hnh⟩, ⟨HL2.out, hnl⟩, ⟨HQ2.out, hnq⟩, by omega, HALL.out hbad⟩
              · rw [HLEN.out, HN2.out]; exact hJ _ _ _ _ _ HJ.out HST2.out
              · rw [HLEN.out, HN2.out]; exact ⟨HB2.out, hnb⟩
            | false =>
              have hsk2 : false = false ∧ Op.bytesLess xk lo = false ∧ ¬ seq < xs := by
                simp only [Bool.or_eq_false_iff, decide_eq_false_iff_not] at hsk
                obtain ⟨h1, h2, h3⟩ := hsk
                exact ⟨by first | rfl | exact h1, h2, h3⟩
              have HN2 := Lib.hid (show prN seq lo L (pre.length + 1) = (P ++ (if xd = true then [] else [(xk, xv)]), true) by rw [HNX.out]; simp [hsk2])
              clear hsk hsk2
              have hbt : ∀ (v : Value), Boxed (wc.setCell ⟨W.heap.size + 1, 0, none⟩ v) W.heap.size 80 (.func (.yield lp) #[] #[]) := fun v => HY2.out.other (by simp) _
              have ho3 := HO2.out.other (p := ⟨W.heap.size + 1, 0, none⟩) hneb (.bool true)
              have hst3 : Sq.Step (fun k => R k ∨ M k) (fun k => R k ∨ M k) X0 (wc.setCell ⟨W.heap.size + 1, 0, none⟩ (.bool true)) := HST2.out.trans (Sq.Step.setCell _ _ (.inr hMb))
              have hk3' : Sq.Kept (fun k => R k ∨ (k = W.heap.size + 2 ∨ T k)) X0 (wc.setCell ⟨W.heap.size + 1, 0, none⟩ (.bool true)) := HK2.out.trans (Sq.Kept.setCell _ _ (fun h => h.elim hnb (fun h => h.elim (fun h => by simp at h) hTb)))
              have hb3 : Boxed (wc.setCell ⟨W.heap.size + 1, 0, none⟩ (.bool true)) (W.heap.size + 1) 4 (.bool true) := HB2.out.set _
              have hy3 := hbt (.bool true)
              have hh3 : Boxed (wc.setCell ⟨W.heap.size + 1, 0, none⟩ (.bool true)) bh 9 (.string (Cd.bs hi)) := HH2.out.other (by omega) _
              have hl3 : Boxed (wc.setCell ⟨W.heap.size + 1, 0, none⟩ (.bool true)) bl 9 (.string (Cd.bs lo)) := HL2.out.other (by omega) _
              have hq3 : Boxed (wc.setCell ⟨W.heap.size + 1, 0, none⟩ (.bool true)) bq 39 (.int .u64 seq) := HQ2.out.other (by omega) _
              gi_upto_region 10 with fail
              generalize wc.setCell ⟨W.heap.size + 1, 0, none⟩ (.bool true) = X4 at *
              have x2 := ho3.cell 2
              have x0 := ho3.cell 0
              have x3 := ho3.cell 3
              simp at x0 x2 x3
              have cy3 := hy3.cell
              have HST3 := Lib.hid hst3
              have HK3 := Lib.hid hk3'
              have HB3 := Lib.hid hb3
              have HY3 := Lib.hid hy3
              have HH3 := Lib.hid hh3
              have HL3 := Lib.hid hl3
              have HQ3 := Lib.hid hq3
              have hsz3 := hk3'.size
              clear hst3 hk3' hb3 hy3 hh3 hl3 hq3 ho3 hbt
              cases xd with
              | true =>
                gi_wp2_with fail
                refine ⟨fun _ _ => trivial, ?_⟩
                gi_wp2_with fail
                refine ⟨HK3.out, ?_, ?_, ⟨HY3.out, hny⟩, ⟨HH3.out, hnh⟩, ⟨HL3.out, hnl⟩, ⟨HQ3.out, hnq⟩, by omega, HALL.out hbad⟩
                · rw [HLEN.out, HN2.out]; simpa using hJ _ _ _ _ _ HJ.out HST3.out
                · rw [HLEN.out, HN2.out]; exact ⟨HB3.out, hnb⟩
              | false =>
                have HP := Lib.hid (show P ++ [(xk, xv)] <+: pairs L seq lo hi from by have := HGROW.out hbad; rw [HN2.out] at this; simpa using this)
                obtain ⟨fn, tmps, assign, body, hyy, hR⟩ := HYY.out (xk, xv) X4 HST3.out HP.out
                have HR := Lib.hid hR
                clear hR
                simp only [pEnc9] at hyy
                gi_wp2_with fail
                refine (Sq.round_in lr HR.out).mono ?_
                rintro e X5 (⟨rfl, hj5, hk5⟩ | ⟨rfl, hjx5, hk5⟩)
                · have hb5 := hk5.boxed (.inl (.inr hMb)) HB3.out
                  have hy5 := hk5.boxed (.inl (.inr hMy)) HY3.out
                  have hh5 := hk5.boxed (.inr (.inl (.inr (.inl rfl)))) HH3.out
                  have hl5 := hk5.boxed (.inr (.inl (.inr (.inr (.inl rfl))))) HL3.out
                  have hq5 := hk5.boxed (.inr (.inl (.inr (.inr (.inr rfl))))) HQ3.out
                  gi_wp2_with fail
                  refine ⟨HKK.out X5 _ HK3.out hk5, ?_, ?_, ⟨hy5, hny⟩, ⟨hh5, hnh⟩, ⟨hl5, hnl⟩, ⟨hq5, hnq⟩, by have := hk5.size; omega, HALL.out hbad⟩
                  · rw [HLEN.out, HN2.out]; simpa using hj5
                  · rw [HLEN.out, HN2.out]; exact ⟨hb5, hnb⟩
                · gi_wp2_with fail
                  exact ⟨HKK.out X5 _ HK3.out hk5, rfl, .inr ⟨_, HP.out, hjx5⟩⟩
        | false =>
          have hst2 : Sq.Step (fun k => R k ∨ M k) (fun k => R k ∨ M k) X0 X0 := Sq.Step.refl _ _
          have hk2 : Sq.Kept (fun k => R k ∨ (k = W.heap.size + 2 ∨ T k)) X0 X0 := Sq.Kept.refl _ _
          have b2 := HB.out
          have y2 := HYB.out
          have h2' := HH.out
          have l2' := HL.out
          have q2 := HQ.out
          have o2 := HF.out
          gi_upto_region 8 with fail
          have c2b := b2.cell
          have f2b := b2.frozen
          have c2y := y2.cell
          have c2l := l2'.cell
          have c2q := q2.cell
          have v0 := o2.cell 0
          have v1 := o2.cell 1
          have v2 := o2.cell 2
          have v3 := o2.cell 3
          simp at v0 v1 v2 v3
          have HB2 := Lib.hid b2
          have HY2 := Lib.hid y2
          have HH2 := Lib.hid h2'
          have HL2 := Lib.hid l2'
          have HQ2 := Lib.hid q2
          have HO2 := Lib.hid o2
          have HST2 := Lib.hid hst2
          have HK2 := Lib.hid hk2
          have hlt2 := y2.lt
          have hszX0 := hk2.size
          clear b2 y2 h2' l2' q2 o2 hst2 hk2 cb fb cy ch cl cq g0 g1 g2 g3
          gi_cut [34] from 22 (fun u wx => u = .bool (f0 || (Op.bytesLess xk lo || decide (seq < xs))) ∧ wx = X0)
          case first =>
            cases f0 with
            | true =>
              gi_wp2_with fail
              gi_meet
              exact ⟨congrArg Value.bool (Bool.true_or _).symm, rfl⟩
            | false =>
              cases hlo : Op.bytesLess xk lo with
              | true =>
                gi_wp2_with fail
                gi_meet
                exact ⟨by first | rfl | (simp; done) | simp [hlo], rfl⟩
              | false =>
                by_cases hsq : seq < xs
                · have hsq2 : decide (seq < xs) = true := by simpa using hsq
                  gi_wp2_with fail
                  gi_meet
                  exact ⟨by simp [hlo, hsq], rfl⟩
                · have hsq2 : decide (seq < xs) = false := by simpa using hsq
                  gi_wp2_with fail
                  gi_meet
                  exact ⟨by simp [hlo, hsq], rfl⟩
          case rest =>
            obtain ⟨rfl, rfl⟩ := hcut
            cases hsk : (f0 || (Op.bytesLess xk lo || decide (seq < xs))) with
            | true =>
              have HN2 := Lib.hid (show prN seq lo L (pre.length + 1) = (P, f0) by rw [HNX.out, if_pos (by simpa using hsk)]; simp)
              clear hsk
              gi_wp2_with fail
              refine ⟨HK2.out, ?_, ?_, ⟨HY2.out, hny⟩, ⟨HH2.out, hnh⟩, ⟨HL2.out, hnl⟩, ⟨HQ2.out, hnq⟩, by omega, HALL.out hbad⟩
              · rw [HLEN.out, HN2.out]; exact hJ _ _ _ _ _ HJ.out HST2.out
              · rw [HLEN.out, HN2.out]; exact ⟨HB2.out, hnb⟩
            | false =>
              have hsk2 : f0 = false ∧ Op.bytesLess xk lo = false ∧ ¬ seq < xs := by
                simp only [Bool.or_eq_false_iff, decide_eq_false_iff_not] at hsk
                obtain ⟨h1, h2, h3⟩ := hsk
                exact ⟨by first | rfl | exact h1, h2, h3⟩
              have HN2 := Lib.hid (show prN seq lo L (pre.length + 1) = (P ++ (if xd = true then [] else [(xk, xv)]), true) by rw [HNX.out]; simp [hsk2])
              clear hsk hsk2
              have hbt : ∀ (v : Value), Boxed (wc.setCell ⟨W.heap.size + 1, 0, none⟩ v) W.heap.size 80 (.func (.yield lp) #[] #[]) := fun v => HY2.out.other (by simp) _
              have ho3 := HO2.out.other (p := ⟨W.heap.size + 1, 0, none⟩) hneb (.bool true)
              have hst3 : Sq.Step (fun k => R k ∨ M k) (fun k => R k ∨ M k) wc (wc.setCell ⟨W.heap.size + 1, 0, none⟩ (.bool true)) := HST2.out.trans (Sq.Step.setCell _ _ (.inr hMb))
              have hk3' : Sq.Kept (fun k => R k ∨ (k = W.heap.size + 2 ∨ T k)) wc (wc.setCell ⟨W.heap.size + 1, 0, none⟩ (.bool true)) := HK2.out.trans (Sq.Kept.setCell _ _ (fun h => h.elim hnb (fun h => h.elim (fun h => by simp at h) hTb)))
              have hb3 : Boxed (wc.setCell ⟨W.heap.size + 1, 0, none⟩ (.bool true)) (W.heap.size + 1) 4 (.bool true) := HB2.out.set _
              have hy3 := hbt (.bool true)
              have hh3 : Boxed (wc.setCell ⟨W.heap.size + 1, 0, none⟩ (.bool true)) bh 9 (.string (Cd.bs hi)) := HH2.out.other (by omega) _
              have hl3 : Boxed (wc.setCell ⟨W.heap.size + 1, 0, none⟩ (.bool true)) bl 9 (.string (Cd.bs lo)) := HL2.out.other (by omega) _
              have hq3 : Boxed (wc.setCell ⟨W.heap.size + 1, 0, none⟩ (.bool true)) bq 39 (.int .u64 seq) := HQ2.out.other (by omega) _
              gi_upto_region 10 with fail
              generalize wc.setCell ⟨W.heap.size + 1, 0, none⟩ (.bool true) = X4 at *
              have x2 := ho3.cell 2
              have x0 := ho3.cell 0
              have x3 := ho3.cell 3
              simp at x0 x2 x3
              have cy3 := hy3.cell
              have HST3 := Lib.hid hst3
              have HK3 := Lib.hid hk3'
              have HB3 := Lib.hid hb3
              have HY3 := Lib.hid hy3
              have HH3 := Lib.hid hh3
              have HL3 := Lib.hid hl3
              have HQ3 := Lib.hid hq3
              have hsz3 := hk3'.size
              clear hst3 hk3' hb3 hy3 hh3 hl3 hq3 ho3 hbt
              cases xd with
              | true =>
                gi_wp2_with fail
                refine ⟨fun _ _ => trivial, ?_⟩
                gi_wp2_with fail
                refine ⟨HK3.out, ?_, ?_, ⟨HY3.out, hny⟩, ⟨HH3.out, hnh⟩, ⟨HL3.out, hnl⟩, ⟨HQ3.out, hnq⟩, by omega, HALL.out hbad⟩
                · rw [HLEN.out, HN2.out]; simpa using hJ _ _ _ _ _ HJ.out HST3.out
                · rw [HLEN.out, HN2.out]; exact ⟨HB3.out, hnb⟩
              | false =>
                have HP := Lib.hid (show P ++ [(xk, xv)] <+: pairs L seq lo hi from by have := HGROW.out hbad; rw [HN2.out] at this; simpa using this)
                obtain ⟨fn, tmps, assign, body, hyy, hR⟩ := HYY.out (xk, xv) X4 HST3.out HP.out
                have HR := Lib.hid hR
                clear hR
                simp only [pEnc9] at hyy
                gi_wp2_with fail
                refine (Sq.round_in lr HR.out).mono ?_
                rintro e X5 (⟨rfl, hj5, hk5⟩ | ⟨rfl, hjx5, hk5⟩)
                · have hb5 := hk5.boxed (.inl (.inr hMb)) HB3.out
                  have hy5 := hk5.boxed (.inl (.inr hMy)) HY3.out
                  have hh5 := hk5.boxed (.inr (.inl (.inr (.inl rfl)))) HH3.out
                  have hl5 := hk5.boxed (.inr (.inl (.inr (.inr (.inl rfl))))) HL3.out
                  have hq5 := hk5.boxed (.inr (.inl (.inr (.inr (.inr rfl))))) HQ3.out
                  gi_wp2_with fail
                  refine ⟨HKK.out X5 _ HK3.out hk5, ?_, ?_, ⟨hy5, hny⟩, ⟨hh5, hnh⟩, ⟨hl5, hnl⟩, ⟨hq5, hnq⟩, by have := hk5.size; omega, HALL.out hbad⟩
                  · rw [HLEN.out, HN2.out]; simpa using hj5
                  · rw [HLEN.out, HN2.out]; exact ⟨hb5, hnb⟩
                · gi_wp2_with fail
                  exact ⟨HKK.out X5 _ HK3.out hk5, rfl, .inr ⟨_, HP.out, hjx5⟩⟩
  case done =>
    rintro D R ys X hD hRD rfl hi' hdf
    have hall := hi'.all
    rw [gp_len, List.take_length] at hall
    have hj := hi'.j
    rw [gp_len, ← pairs_all hall] at hj
    gi_wp2
    refine ⟨by simp, .inl ⟨_, _, rfl, run_takeDeferred hdf, ?_⟩⟩
    exact ⟨_, results_none rfl _ _ _, ⟨_, rfl⟩, .inl ⟨_, _, rfl, hJ _ _ _ _ _ hj (Sq.Step.putObj _ _ (.inl hRD))⟩⟩
  case stop =>
    rintro D R c pre X hD hRD hsp ⟨rfl, hj⟩ hdf
    gi_wp2
    refine ⟨by simp, .inl ⟨_, _, rfl, run_takeDeferred hdf, ?_⟩⟩
    rcases hj with hj | ⟨p, hp, hj⟩
    · exact ⟨_, results_none rfl _ _ _, ⟨_, rfl⟩, .inl ⟨_, _, rfl, hJ _ _ _ _ _ hj (Sq.Step.putObj _ _ (.inl hRD))⟩⟩
    · exact ⟨_, results_none rfl _ _ _, ⟨_, rfl⟩, .inr ⟨_, _, hp, hJx _ _ _ _ _ hj (Sq.Step.putObj _ _ (.inl hRD))⟩⟩
end Mg
end Go.Proofs.Ythcllaombabpbaa

/-
  The program's merge: Keep, plain: what one version more tells and holds back.
-/
namespace Go.Proofs.Ythcllaombabpbaa
open Go.RowKit Go.Shelf
set_option linter.unusedSimpArgs false
set_option linter.unusedVariables false
namespace Mg
open Mt (Ver mayB lessB placeB VerIn verV)
open Tb (ver0 getD_at)

/-- what is needed of one version more -/
def kneed (fl : List Int) (L : List Ver) (n : Nat) : Bool := newG L n || seenAt fl L n
/-- what is held, with it -/
def kheld (fl : List Int) (bottom : Bool) (L : List Ver) (n : Nat) : List Ver := (if newG L n = true then [] else pend fl bottom L n) ++ [L.getD n ver0]

theorem kp_skip {fl : List Int} {bottom : Bool} {L : List Ver} {n : Nat} (h : kneed fl L n = false) : kpF fl bottom L (n + 1) = kpF fl bottom L n ∧ pend fl bottom L (n + 1) = pend fl bottom L n := by
  unfold kneed at h
  rw [Bool.or_eq_false_iff] at h
  exact kpF_skip h.1 h.2
theorem kp_hold {fl : List Int} {bottom : Bool} {L : List Ver} {n : Nat} (h : kneed fl L n = true) (hb : (bottom && (L.getD n ver0).del) = true) : kpF fl bottom L (n + 1) = kpF fl bottom L n ∧ pend fl bottom L (n + 1) = kheld fl bottom L n := by
  unfold kheld
  cases hF : newG L n with
  | true =>
    have := kpF_new (fl := fl) (bottom := bottom) hF
    rw [if_pos hb, if_pos hb] at this
    simpa using this
  | false =>
    have hs : seenAt fl L n = true := by unfold kneed at h; rw [hF] at h; simpa using h
    have := kpF_seen (fl := fl) (bottom := bottom) hF hs
    rw [if_pos hb, if_pos hb] at this
    simpa using this
theorem kp_tell {fl : List Int} {bottom : Bool} {L : List Ver} {n : Nat} (h : kneed fl L n = true) (hb : (bottom && (L.getD n ver0).del) = false) : kpF fl bottom L (n + 1) = kpF fl bottom L n ++ kheld fl bottom L n ∧ pend fl bottom L (n + 1) = [] := by
  have hb' : ¬ (bottom && (L.getD n ver0).del) = true := by rw [hb]; simp
  unfold kheld
  cases hF : newG L n with
  | true =>
    have := kpF_new (fl := fl) (bottom := bottom) hF
    rw [if_neg hb', if_neg hb'] at this
    simpa using this
  | false =>
    have hs : seenAt fl L n = true := by unfold kneed at h; rw [hF] at h; simpa using h
    have := kpF_seen (fl := fl) (bottom := bottom) hF hs
    rw [if_neg hb', if_neg hb'] at this
    simpa using this

/-- the rising floors tell whether one is seen -/
theorem seen_of_rising {S fl : List Int} (hp : S.Perm fl) (L : List Ver) (n : Nat) : (S.any fun f => decide ((L.getD n ver0).seq ≤ f) && decide (f < (L.getD (n - 1) ver0).seq)) = seenAt fl L n := by
  unfold seenAt
  rw [Bool.eq_iff_iff, List.any_eq_true, List.any_eq_true]
  constructor
  · rintro ⟨f, hf, h⟩; exact ⟨f, hp.mem_iff.1 hf, h⟩
  · rintro ⟨f, hf, h⟩; exact ⟨f, hp.mem_iff.2 hf, h⟩
theorem newG_zero (L : List Ver) : newG L 0 = true := by
  unfold newG
  simp
end Mg
end Go.Proofs.Ythcllaombabpbaa

/-
  The program's merge: which blocks are private to a range over groups, with what its user makes.
-/
namespace Go.Proofs.Ythcllaombabpbaa
open Go.RowKit Go.Shelf
set_option linter.unusedSimpArgs false
set_option linter.unusedVariables false
namespace Mg

/-- what is private to Cut's range: the range's own blocks that are there, Cut's boxes, the rows -/
abbrev ctR (M G R : Sq.Blocks) (X : World) : Sq.Blocks := fun k => (R k ∧ k < X.heap.size) ∨ (M k ∨ G k)
theorem ctR_step {M G R R' : Sq.Blocks} {X X' : World} (st : Sq.Step R R' X X') : Sq.Step (ctR M G R X) (ctR M G R' X') X X' :=
  ⟨⟨st.kept.os, st.kept.tape, st.kept.output, st.kept.size, fun k hk hl => st.kept.block k (fun h => hk (.inl ⟨h, hl⟩)) hl⟩,
    fun k h => h.elim (fun h => .inl ⟨st.sub k h.1, Nat.lt_of_lt_of_le h.2 st.kept.size⟩) .inr,
    fun k h => h.elim (fun h => (st.new k h.1).elim (fun h2 => (Nat.lt_or_ge k X.heap.size).elim (fun h3 => .inl (.inl ⟨h2, h3⟩)) .inr) .inr) (fun h => .inl (.inr h))⟩
end Mg
end Go.Proofs.Ythcllaombabpbaa

/-
  The program's merge: Keep: what stands between the rounds.
-/
namespace Go.Proofs.Ythcllaombabpbaa
open Go.RowKit Go.Shelf
set_option linter.unusedSimpArgs false
set_option linter.unusedVariables false
namespace Mg
open Mt (Ver mayB lessB placeB VerIn verV)
open Vs (Vers At vcs)
open Tb (ver0 getD_at own_after lower_row)

/-- the floors that rise, in a block that is not the range's own -/
def KRow (F : Sq.Blocks) (W X : World) (R : Sq.Blocks) (v : Value) (S : List Int) : Prop := ∃ (a : Option Addr) (cap b : Nat), v = .slice a S.length cap ∧ (0 < S.length → a = some ⟨b, 0, none⟩ ∧ b < W.heap.size ∧ ¬ R b ∧ F b) ∧ ∀ j (h : j < S.length), X.cell? ⟨b, j, none⟩ = some (.int .u64 S[j])
theorem KRow.step {F : Sq.Blocks} {W X X' : World} {R R' : Sq.Blocks} {v : Value} {S : List Int} (h : KRow F W X R v S) (hs : W.heap.size ≤ X.heap.size) (st : Sq.Step R R' X X') : KRow F W X' R' v S := by
  obtain ⟨a, cap, b, h1, h2, h3⟩ := h
  exact ⟨a, cap, b, h1, fun h => ⟨(h2 h).1, (h2 h).2.1, Sq.step_not st (Nat.lt_of_lt_of_le (h2 h).2.1 hs) (h2 h).2.2.1, (h2 h).2.2.2⟩, fun j hj => st.kept.cell (p := ⟨b, j, none⟩) (h2 (by omega)).2.2.1 (h3 j hj)⟩

/-- between the rounds: what is held back, what is told, the last sequence number -/
structure KpS (F : Sq.Blocks) (J : Sq.Blocks → List Ver → World → Prop) (M : Sq.Blocks) (W : World) (lp br bo : Nat) (rv : Value) (S : List Int) (bt : Bool) (G : Sq.Blocks) (u : Value) (hd td : List Ver) (ah : Int) (R : Sq.Blocks) (X : World) : Prop where
  j : J (ctR M G R X) td X
  l : Boxed X (W.heap.size + 1) 28 u ∧ ¬ R (W.heap.size + 1)
  a : Boxed X (W.heap.size + 2) 39 (.int .u64 ah) ∧ ¬ R (W.heap.size + 2)
  y : Boxed X W.heap.size 54 (.func (.yield lp) #[] #[]) ∧ ¬ R W.heap.size
  rb : Boxed X br 34 rv ∧ ¬ R br
  b : Boxed X bo 4 (.bool bt) ∧ ¬ R bo
  row : KRow F W X R rv S
  r : X.ownsRow (W.heap.size + 4) 44 4 u hd.length (vcs hd) ∧ ∀ g, u.ownBlock = some g → ¬ R g
  g : ∀ g, u.ownBlock = some g → G g
  gl : ∀ k, G k → W.heap.size + 4 ≤ k ∧ k < X.heap.size ∧ ¬ R k
  size : W.heap.size + 4 ≤ X.heap.size
  lo : ∀ k, R k → W.heap.size ≤ k
theorem KpS.step {F : Sq.Blocks} {J : Sq.Blocks → List Ver → World → Prop} {M : Sq.Blocks} {W : World} {lp br bo : Nat} {rv : Value} {S : List Int} {bt : Bool} {G : Sq.Blocks} {u : Value} {hd td : List Ver} {ah : Int} {R R' : Sq.Blocks} {X X' : World} (hJ : Sq.Steady J)
    (h : KpS F J M W lp br bo rv S bt G u hd td ah R X) (st : Sq.Step R R' X X') : KpS F J M W lp br bo rv S bt G u hd td ah R' X' :=
  ⟨hJ _ _ _ _ _ h.j (ctR_step st), Sq.step_obj st h.l.1 h.l.2, Sq.step_obj st h.a.1 h.a.2, Sq.step_obj st h.y.1 h.y.2, Sq.step_obj st h.rb.1 h.rb.2, Sq.step_obj st h.b.1 h.b.2, h.row.step (by have := h.size; omega) st,
    Sq.Steady.row (β := Unit) _ _ _ (fun _ => u) (fun _ => hd.length) (fun _ => vcs hd) R R' () X X' h.r st, h.g,
    fun k hk => ⟨(h.gl k hk).1, Nat.lt_of_lt_of_le (h.gl k hk).2.1 st.kept.size, Sq.step_not st (h.gl k hk).2.1 (h.gl k hk).2.2⟩, Nat.le_trans h.size st.kept.size,
    fun k hk => (st.new k hk).elim (h.lo k) (fun h2 => by have := h.size; omega)⟩
/-- a block more is Keep's own -/
theorem KpS.alloc {F : Sq.Blocks} {J : Sq.Blocks → List Ver → World → Prop} {M : Sq.Blocks} {W : World} {lp br bo : Nat} {rv : Value} {S : List Int} {bt : Bool} {G : Sq.Blocks} {u : Value} {hd td : List Ver} {ah : Int} {R : Sq.Blocks} {X : World} (hJ : Sq.Steady J)
    (h : KpS F J M W lp br bo rv S bt G u hd td ah R X) (hbd : ∀ k, R k → k < X.heap.size) (o : Obj) : KpS F J M W lp br bo rv S bt (fun j => G j ∨ j = X.heap.size) u hd td ah R (X.alloc o) := by
  have h2 := h.step hJ (Sq.Step.alloc0 R X o)
  refine ⟨?_, h2.l, h2.a, h2.y, h2.rb, h2.b, h2.row, h2.r, fun g hg => .inl (h.g g hg), ?_, h2.size, h.lo⟩
  · refine hJ _ _ _ _ _ h.j ⟨Sq.Kept.alloc _ _ _, ?_, ?_⟩
    · rintro k (h | h | h)
      · exact .inl ⟨h.1, by simp; omega⟩
      · exact .inr (.inl h)
      · exact .inr (.inr (.inl h))
    · rintro k (h | h | h | h)
      · exact .inl (.inl ⟨h.1, hbd k h.1⟩)
      · exact .inl (.inr (.inl h))
      · exact .inl (.inr (.inr h))
      · exact .inr (by omega)
  · rintro k (hk | hk)
    · exact h2.gl k hk
    · subst hk
      exact ⟨h.size, by simp, fun hr => by have := hbd _ hr; omega⟩
/-- the box of the list at hand is emptied -/
theorem KpS.drop {F : Sq.Blocks} {J : Sq.Blocks → List Ver → World → Prop} {M : Sq.Blocks} {W : World} {lp br bo : Nat} {rv : Value} {S : List Int} {bt : Bool} {G : Sq.Blocks} {u : Value} {hd td : List Ver} {ah : Int} {R : Sq.Blocks} {X : World} (hJ : Sq.Steady J) (hM : M (W.heap.size + 1)) (hbr : br < W.heap.size) (hbo : bo < W.heap.size)
    (h : KpS F J M W lp br bo rv S bt G u hd td ah R X) : KpS F J M W lp br bo rv S bt G (.slice none 0 0) [] td ah R (X.setCell ⟨W.heap.size + 1, 0, none⟩ (.slice none 0 0)) := by
  refine ⟨hJ _ _ _ _ _ h.j ⟨Sq.Kept.setCell _ _ (fun h => h (.inr (.inl hM))), fun k hk => hk.elim (fun h => .inl ⟨h.1, by simpa using h.2⟩) .inr, fun k hk => .inl (hk.elim (fun h => .inl ⟨h.1, by simpa using h.2⟩) .inr)⟩,
    ⟨h.l.1.set _, h.l.2⟩, ⟨h.a.1.other (by simp) _, h.a.2⟩, ⟨h.y.1.other (by simp) _, h.y.2⟩, ⟨h.rb.1.other (by simp; omega) _, h.rb.2⟩, ⟨h.b.1.other (by simp; omega) _, h.b.2⟩, ?_, ⟨World.ownsRow_nil _ _ _ _, fun g hg => by simp [Value.ownBlock] at hg⟩, fun g hg => by simp [Value.ownBlock] at hg, fun k hk => ⟨(h.gl k hk).1, by simpa using (h.gl k hk).2.1, (h.gl k hk).2.2⟩, by simpa using h.size, h.lo⟩
  obtain ⟨a, cap, b, h1, h2, h3⟩ := h.row
  exact ⟨a, cap, b, h1, h2, fun j hj => (Sq.Kept.setCell (T := fun k => k < W.heap.size) X _ (by simp)).cell (p := ⟨b, j, none⟩) (h2 (by omega)).2.1 (h3 j hj)⟩
/-- the sequence number goes on -/
theorem KpS.ahead {F : Sq.Blocks} {J : Sq.Blocks → List Ver → World → Prop} {M : Sq.Blocks} {W : World} {lp br bo : Nat} {rv : Value} {S : List Int} {bt : Bool} {G : Sq.Blocks} {u : Value} {hd td : List Ver} {ah : Int} {R : Sq.Blocks} {X : World} (hJ : Sq.Steady J) (hM : M (W.heap.size + 2)) (hbr : br < W.heap.size) (hbo : bo < W.heap.size) (n : Int)
    (h : KpS F J M W lp br bo rv S bt G u hd td ah R X) : KpS F J M W lp br bo rv S bt G u hd td n R (X.setCell ⟨W.heap.size + 2, 0, none⟩ (.int .u64 n)) := by
  refine ⟨hJ _ _ _ _ _ h.j ⟨Sq.Kept.setCell _ _ (fun h => h (.inr (.inl hM))), fun k hk => hk.elim (fun h => .inl ⟨h.1, by simpa using h.2⟩) .inr, fun k hk => .inl (hk.elim (fun h => .inl ⟨h.1, by simpa using h.2⟩) .inr)⟩,
    ⟨h.l.1.other (by simp) _, h.l.2⟩, ⟨h.a.1.set _, h.a.2⟩, ⟨h.y.1.other (by simp) _, h.y.2⟩, ⟨h.rb.1.other (by simp; omega) _, h.rb.2⟩, ⟨h.b.1.other (by simp; omega) _, h.b.2⟩, ?_, ⟨?_, h.r.2⟩, h.g, fun k hk => ⟨(h.gl k hk).1, by simpa using (h.gl k hk).2.1, (h.gl k hk).2.2⟩, by simpa using h.size, h.lo⟩
  · obtain ⟨a, cap, b, h1, h2, h3⟩ := h.row
    exact ⟨a, cap, b, h1, h2, fun j hj => (Sq.Kept.setCell (T := fun k => k < W.heap.size) X _ (by simp)).cell (p := ⟨b, j, none⟩) (h2 (by omega)).2.1 (h3 j hj)⟩
  · refine Ob.row_other h.r.1 (fun e => ?_) _
    have := (Ob.row_lt h.r.1 e).1
    have h9 : W.heap.size + 4 ≤ W.heap.size + 2 := this
    omega
/-- one version more is held -/
theorem KpS.next {F : Sq.Blocks} {J : Sq.Blocks → List Ver → World → Prop} {M T : Sq.Blocks} {W : World} {lp br bo : Nat} {rv : Value} {S : List Int} {bt : Bool} {G : Sq.Blocks} {u : Value} {hd td : List Ver} {ah : Int} {R : Sq.Blocks} {X X1 X3 : World} {x : Ver} {g cap : Nat}
    (hJ : Sq.Steady J) (hMm : ∀ k, M k ↔ W.heap.size ≤ k ∧ k < W.heap.size + 4) (hT : ∀ k, T k → k < W.heap.size) (hbr : br < W.heap.size) (hbo : bo < W.heap.size)
    (h : KpS F J M W lp br bo rv S bt G u hd td ah R X) (hbd : ∀ k, R k → k < X.heap.size)
    (hX1 : Sq.Kept (fun _ => True) X X1) (hs1 : X1.heap.size = X.heap.size + 1)
    (hown : X3.ownsRow (W.heap.size + 4) 44 4 (.slice (some ⟨g, 0, none⟩) (hd.length + 1) cap) (hd.length + 1) (vcs hd ++ [.string (Cd.bs x.key), .int .u64 x.seq, .bool x.del, .string (Cd.bs x.val)]))
    (hgrow : X1.grownBy X3 u.ownBlock) (hat : u.ownBlock = some g ∨ g = X.heap.size + 1) :
    Boxed X3 (W.heap.size + 1) 28 u ∧
    KpS F J M W lp br bo rv S bt (fun k => G k ∨ k = g) (.slice (some ⟨g, 0, none⟩) (hd.length + 1) cap) (hd ++ [x]) td ah R (X3.setCell ⟨W.heap.size + 1, 0, none⟩ (.slice (some ⟨g, 0, none⟩) (hd.length + 1) cap)) ∧
    Sq.Kept (fun k => R k ∨ (k = W.heap.size + 3 ∨ T k)) X (X3.setCell ⟨W.heap.size + 1, 0, none⟩ (.slice (some ⟨g, 0, none⟩) (hd.length + 1) cap)) ∧
    ∀ (Bf : Nat) (cs : List Value), Ob.Obj X Bf 44 cs → (∀ r, u.ownBlock = some r → Bf ≠ r) → Bf ≠ W.heap.size + 1 → Ob.Obj (X3.setCell ⟨W.heap.size + 1, 0, none⟩ (.slice (some ⟨g, 0, none⟩) (hd.length + 1) cap)) Bf 44 cs := by
  have hrow := h.r.1
  have hsz := h.size
  have hge : ∀ r, u.ownBlock = some r → W.heap.size + 4 ≤ r := fun r hr => (Ob.row_lt hrow hr).1
  have hKg : Sq.Kept (fun k => ∀ r, u.ownBlock = some r → k ≠ r) X1 X3 := Sq.Kept.grown hgrow (fun r hr h => h r hr rfl)
  have hK2 : Sq.Kept (fun k => ∀ r, u.ownBlock = some r → k ≠ r) X X3 := (hX1.less (fun _ _ _ => trivial)).trans hKg
  have hlow : ∀ k, k < W.heap.size + 4 → ∀ r, u.ownBlock = some r → k ≠ r := fun k hk r hr e => by have := hge r hr; omega
  have hl3 : Boxed X3 (W.heap.size + 1) 28 u := hK2.boxed (hlow _ (by omega)) h.l.1
  have ha3 : Boxed X3 (W.heap.size + 2) 39 (.int .u64 ah) := hK2.boxed (hlow _ (by omega)) h.a.1
  have hy3 : Boxed X3 W.heap.size 54 (.func (.yield lp) #[] #[]) := hK2.boxed (hlow _ (by omega)) h.y.1
  have hr3 : Boxed X3 br 34 rv := hK2.boxed (hlow _ (by omega)) h.rb.1
  have hb3 : Boxed X3 bo 4 (.bool bt) := hK2.boxed (hlow _ (by omega)) h.b.1
  have hg4 : W.heap.size + 4 ≤ g := by
    rcases hat with h | h
    · exact hge g h
    · omega
  have hng : ¬ R g := by
    rcases hat with h' | h'
    · exact h.r.2 g h'
    · intro hr; have := hbd g hr; omega
  have hgX : g < X3.heap.size := by
    rcases hown with ⟨_, h | ⟨g', _, _, h1, _, h3, _⟩⟩
    · simp at h
    · injection h1 with h1 _ _
      injection h1 with h1
      injection h1 with h1 _
      subst h1
      exact (Array.getElem?_eq_some_iff.1 h3).1
  refine ⟨hl3, ⟨?_, ⟨hl3.set _, h.l.2⟩, ⟨ha3.other (by simp) _, h.a.2⟩, ⟨hy3.other (by simp) _, h.y.2⟩, ⟨hr3.other (by simp; omega) _, h.rb.2⟩, ⟨hb3.other (by simp; omega) _, h.b.2⟩, ?_, ⟨?_, ?_⟩, ?_, ?_, ?_, h.lo⟩, ?_, fun Bf cs ho hn hne => (ho.kept hK2 hn).other hne _⟩
  · refine hJ _ _ _ _ _ h.j ⟨?_, ?_, ?_⟩
    · exact (hK2.less (fun k hk hl' r hr e => hk (.inr (.inr (e ▸ h.g r hr))))).trans (Sq.Kept.setCell _ _ (fun h => h (.inr (.inl ((hMm _).2 (by simp))))))
    · rintro k (h | h | h)
      · exact .inl ⟨h.1, by have := hK2.size; simp; omega⟩
      · exact .inr (.inl h)
      · exact .inr (.inr (.inl h))
    · rintro k (h' | h' | h' | h')
      · exact .inl (.inl ⟨h'.1, hbd k h'.1⟩)
      · exact .inl (.inr (.inl h'))
      · exact .inl (.inr (.inr h'))
      · subst h'
        rcases hat with h2 | h2
        · exact .inl (.inr (.inr (h.g _ h2)))
        · exact .inr (by omega)
  · obtain ⟨a, c, b, h1, h2, h3⟩ := h.row
    refine ⟨a, c, b, h1, h2, fun j hj => ?_⟩
    have hb := (h2 (by omega)).2.1
    exact (Sq.Kept.setCell (T := fun k => k < W.heap.size) X3 _ (by simp)).cell (p := ⟨b, j, none⟩) hb (hK2.cell (p := ⟨b, j, none⟩) (hlow b (by omega)) (h3 j hj))
  · rw [List.length_append, List.length_singleton, Vs.vcs_snoc]
    refine Ob.row_other hown (fun e => ?_) _
    have := (Ob.row_lt hown e).1; have h9 : W.heap.size + 4 ≤ W.heap.size + 1 := this; omega
  · intro r hr
    obtain rfl : g = r := by simpa [Value.ownBlock] using hr
    exact hng
  · intro r hr
    obtain rfl : g = r := by simpa [Value.ownBlock] using hr
    exact .inr rfl
  · rintro k (hk | hk)
    · have := h.gl k hk; have := hK2.size
      exact ⟨(h.gl k hk).1, by simp; omega, (h.gl k hk).2.2⟩
    · subst hk
      exact ⟨hg4, by simpa using hgX, hng⟩
  · have := hK2.size; simp; omega
  · refine (hK2.less (fun k hk hl' r hr e => ?_)).trans (Sq.Kept.setCell _ _ ?_)
    · subst e
      rcases hk with hk | hk | hk
      · exact h.r.2 k hr hk
      · have := hge k hr; omega
      · have := hge k hr; have := hT k hk; omega
    · rintro (hk | hk | hk)
      · exact h.l.2 hk
      · simp at hk
      · have := hT _ hk; simp at this; omega
/-- one version more is told -/
theorem KpS.told {F : Sq.Blocks} {J : Sq.Blocks → List Ver → World → Prop} {M T : Sq.Blocks} {W : World} {lp br bo : Nat} {rv : Value} {S : List Int} {bt : Bool} {G : Sq.Blocks} {u : Value} {hd td : List Ver} {ah : Int} {R : Sq.Blocks} {X X' : World} {t2 : List Ver}
    (hJ : Sq.Steady J) (hMm : ∀ k, M k ↔ W.heap.size ≤ k ∧ k < W.heap.size + 4) (hF : ∀ k, F k → T k) (hbr : T br) (hbo : T bo)
    (h : KpS F J M W lp br bo rv S bt G u hd td ah R X) (hbd : ∀ k, R k → k < X.heap.size) (hj : J (ctR M G R X) t2 X') (hk : Sq.Kept (fun k => ctR M G R X k ∨ T k) X X') : KpS F J M W lp br bo rv S bt G u hd t2 ah R X' := by
  have hM : ∀ i, i < 4 → (fun k => ctR M G R X k ∨ T k) (W.heap.size + i) := fun i hi => .inl (.inr (.inl ((hMm _).2 (by omega))))
  refine ⟨hJ _ _ _ _ _ hj ⟨Sq.Kept.refl _ _, fun k hk' => hk'.elim (fun h => .inl ⟨h.1, Nat.lt_of_lt_of_le h.2 hk.size⟩) .inr, fun k hk' => .inl (hk'.elim (fun h => .inl ⟨h.1, hbd k h.1⟩) .inr)⟩,
    ⟨hk.boxed (hM 1 (by omega)) h.l.1, h.l.2⟩, ⟨hk.boxed (hM 2 (by omega)) h.a.1, h.a.2⟩, ⟨hk.boxed (hM 0 (by omega)) h.y.1, h.y.2⟩, ⟨hk.boxed (.inr hbr) h.rb.1, h.rb.2⟩, ⟨hk.boxed (.inr hbo) h.b.1, h.b.2⟩, ?_,
    ⟨Sq.row_kept h.r.1 hk (fun g hg => .inl (.inr (.inr (h.g g hg)))), h.r.2⟩, h.g, fun k hk' => ⟨(h.gl k hk').1, Nat.lt_of_lt_of_le (h.gl k hk').2.1 hk.size, (h.gl k hk').2.2⟩, Nat.le_trans h.size hk.size, h.lo⟩
  obtain ⟨a, c, b, h1, h2, h3⟩ := h.row
  exact ⟨a, c, b, h1, h2, fun j hj' => hk.cell (p := ⟨b, j, none⟩) (.inr (hF _ (h2 (by omega)).2.2.2)) (h3 j hj')⟩
end Mg
end Go.Proofs.Ythcllaombabpbaa

/-
  The program's merge: Keep: the iterator.
-/
namespace Go.Proofs.Ythcllaombabpbaa
open Go.RowKit Go.Shelf
set_option linter.unusedSimpArgs false
set_option linter.unusedVariables false
namespace Mg
open Mt (Ver mayB lessB placeB VerIn verV)
open Vs (Vers At vcs)
open Tb (ver0 getD_at own_after lower_row)
attribute [local go_sem] Oper.semAt_some

/-- the last sequence number -/
def ahd (L : List Ver) (n : Nat) : Int := if n = 0 then 0 else (L.getD (n - 1) ver0).seq
theorem ahd_succ (L : List Ver) (n : Nat) : ahd L (n + 1) = (L.getD n ver0).seq := by unfold ahd; simp
def KpI (F : Sq.Blocks) (fl : List Int) (L : List Ver) (J : Sq.Blocks → List Ver → World → Prop) (M : Sq.Blocks) (W : World) (lp br bo : Nat) (rv : Value) (S : List Int) (bt : Bool) (R : Sq.Blocks) (pre : List (Ver × Bool)) (X : World) : Prop :=
  ∃ G u, KpS F J M W lp br bo rv S bt G u (pend fl bt L pre.length) (kpF fl bt L pre.length) (ahd L pre.length) R X
/-- at a round's beginning -/
def KpA (F : Sq.Blocks) (fl : List Int) (L : List Ver) (J : Sq.Blocks → List Ver → World → Prop) (M : Sq.Blocks) (W : World) (lp br bo : Nat) (rv : Value) (S : List Int) (bt : Bool) (fr : Nat → Act) (a' : Act) (x : Ver × Bool) (R : Sq.Blocks) (pre : List (Ver × Bool)) (X : World) : Prop :=
  ∃ G u Bf, KpS F J M W lp br bo rv S bt G u (pend fl bt L pre.length) (kpF fl bt L pre.length) (ahd L pre.length) R X ∧ (Ob.Obj X Bf 44 [.string (Cd.bs x.1.key), .int .u64 x.1.seq, .bool x.1.del, .string (Cd.bs x.1.val)] ∧ G Bf ∧ ∀ r, u.ownBlock = some r → Bf ≠ r) ∧ a' = fr Bf
theorem KpA.steady {F : Sq.Blocks} {fl : List Int} {L : List Ver} {J : Sq.Blocks → List Ver → World → Prop} {M : Sq.Blocks} {W : World} {lp br bo : Nat} {rv : Value} {S : List Int} {bt : Bool} {fr : Nat → Act} {a' : Act} {x : Ver × Bool} (hJ : Sq.Steady J) : Sq.Steady (KpA F fl L J M W lp br bo rv S bt fr a' x) :=
  fun R R' s X X' ⟨G, u, Bf, h, hf, ha⟩ st => ⟨G, u, Bf, h.step hJ st, ⟨(Sq.step_obj st hf.1 (h.gl _ hf.2.1).2.2).1, hf.2⟩, ha⟩
/-- what Keep closes over -/
abbrev kcT (F : Sq.Blocks) (bs br bo : Nat) (T : Sq.Blocks) : Sq.Blocks := fun k => ((k = bs ∨ k = br ∨ k = bo) ∨ F k) ∨ T k
theorem kp0 (fl : List Int) (bt : Bool) (L : List Ver) : kpF fl bt L 0 = [] ∧ pend fl bt L 0 = [] := by
  have h0 : trim bt [] = [] := by unfold trim; split <;> rfl
  have h1 : kpN fl bt L 0 = ([], []) := rfl
  unfold kpF pend
  rw [h1, h0]
  exact ⟨rfl, rfl⟩
end Mg
end Go.Proofs.Ythcllaombabpbaa

/-
  The program's merge: Keep: the iterator.
-/
namespace Go.Proofs.Ythcllaombabpbaa
open Go.RowKit Go.Shelf
set_option linter.unusedSimpArgs false
set_option linter.unusedVariables false
namespace Mg
open Mt (Ver mayB lessB placeB VerIn verV)
open Vs (Vers At vcs)
open Tb (ver0 getD_at own_after lower_row)
attribute [local go_sem] Oper.semAt_some

theorem kpN_lenV (fl : List Int) (bt : Bool) (L : List Ver) : ∀ n, (kpN fl bt L n).2.length ≤ n + 1
  | 0 => by show ([] : List Ver).length ≤ _; simp
  | n + 1 => by
    have ih := kpN_lenV fl bt L n
    rw [kpN_succ]
    unfold kpStep
    split
    · simp
    · simp only [List.length_append]
      split
      · simp; omega
      · simp; omega
theorem kheld_len (fl : List Int) (bt : Bool) (L : List Ver) (n : Nat) : (if newG L n = true then [] else pend fl bt L n).length ≤ n + 1 := by
  split
  · simp
  · have := kpN_lenV fl bt L n
    unfold pend
    rw [List.length_drop]
    omega

set_option maxRecDepth 100000 in
set_option maxHeartbeats 4000000 in
/-- KEEP TELLS WHAT SOMEBODY MAY STILL SEE. -/
theorem keep1_seq (n : Nat) (hn : 11 ≤ n) (sv : Value) (L : List Ver) (T : Sq.Blocks) (hL : ∀ x ∈ L, VerIn x) (hmany : L.length ≤ 1048576) (fl S : List Int) (hS : S.Perm fl) (hSp : S.Pairwise (· ≤ ·)) (hfl : fl.length ≤ 1048576) (bt : Bool) (F : Sq.Blocks) (rv : Value) (bs br bo : Nat) (w : World)
    (hCs : Boxed w bs 26 sv) (hCr : Boxed w br 34 rv) (hCo : Boxed w bo 4 (.bool bt)) (hrow : KRow F w w (fun _ => False) rv S) (hT : Tells w sv L T) :
    Sq.SeqC Fence.wide n Try.prog 30 #[.pointer (some ⟨bs, 0, none⟩), .pointer (some ⟨br, 0, none⟩), .pointer (some ⟨bo, 0, none⟩)] vEnc9 (kcT F bs br bo T) (fun ys => ys = keep L fl bt) (fun pre => pre <+: keep L fl bt) w := by
  intro lp J Jx W hW hJ hJx hY h0
  have hCWs := hW.boxed (.inl (.inl (.inl rfl))) hCs
  have hCWr := hW.boxed (.inl (.inl (.inr (.inl rfl)))) hCr
  have hCWo := hW.boxed (.inl (.inl (.inr (.inr rfl)))) hCo
  have hrow0 : KRow F W W (fun _ => False) rv S := by
    obtain ⟨a, c, b, h1, h2, h3⟩ := hrow
    exact ⟨a, c, b, h1, fun h => ⟨(h2 h).1, Nat.lt_of_lt_of_le (h2 h).2.1 hW.size, fun h => h, (h2 h).2.2.2⟩, fun j hj => hW.cell (p := ⟨b, j, none⟩) (.inl (.inr (h2 (by omega)).2.2.2)) (h3 j hj)⟩
  obtain ⟨gf, lb, rfl⟩ : ∃ gf lb, sv = .func (.func gf) #[] lb := by obtain ⟨gf, lb, h, _⟩ := hT; exact ⟨gf, lb, h⟩
  have HTW := Lib.hid (hT.kept (hW.less fun k h _ => .inr h))
  have HY := Lib.hid (fun R pre x W1 h1 h2 h3 => (hY R pre x W1 h1 h2 h3))
  clear hY hT hrow
  have hn1 : 1 ≤ n := by omega
  have l1 := hCWs.lt
  have l2 := hCWr.lt
  have l3 := hCWo.lt
  refine callsIn_of_wp_marks Try.func30 rfl trivial ?_ rfl
  simp only [Try.ntmps30, List.size_toArray, List.length_cons, List.length_nil, Nat.reduceAdd, Nat.reduceSub, Array.replicate_succ, Array.replicate_zero, List.push_toArray, List.append_toArray, List.nil_append, List.cons_append]
  gi_upto_region 3 with fail
  obtain ⟨W9, hW9⟩ : ∃ W9, ((W.alloc (.cells #[.func (.yield lp) #[] #[]] 54)).alloc (.cells #[.slice none 0 0] 28)).alloc (.cells #[.int .u64 0] 39) = W9 := ⟨_, rfl⟩
  have hst9 : Sq.Kept (fun _ => True) W W9 := by rw [← hW9]; exact ((Sq.Kept.alloc _ _ _).trans (Sq.Kept.alloc _ _ _)).trans (Sq.Kept.alloc _ _ _)
  have hcB9 : W9.cell? ⟨bs, 0, none⟩ = some (.func (.func gf) #[] lb) := (hst9.boxed trivial hCWs).cell
  have bY : Boxed W9 W.heap.size 54 (.func (.yield lp) #[] #[]) := by rw [← hW9]; exact ((Boxed.new W _ _).alloc _).alloc _
  have bA : Boxed W9 (W.heap.size + 1) 28 (.slice none 0 0) := by
    rw [← hW9]; have := Boxed.new (W.alloc (.cells #[.func (.yield lp) #[] #[]] 54)) 28 (.slice none 0 0)
    rw [World.size_alloc] at this; exact this.alloc _
  have bZ : Boxed W9 (W.heap.size + 2) 39 (.int .u64 0) := by
    rw [← hW9]; have := Boxed.new ((W.alloc (.cells #[.func (.yield lp) #[] #[]] 54)).alloc (.cells #[.slice none 0 0] 28)) 39 (.int .u64 0)
    rwa [World.size_alloc, World.size_alloc] at this
  have HS9 := Lib.hid (show W9.heap.size = W.heap.size + 3 by rw [← hW9]; simp)
  rw [hW9]
  clear hW9
  have HST9 := Lib.hid hst9
  have HBY := Lib.hid bY
  have HBA := Lib.hid bA
  have HBZ := Lib.hid bZ
  clear hst9 bY bA bZ
  gi_wp2_with (refine ⟨trivial, ?_⟩; gi_at_call 31; refine (groups_in _ _ _ _).mono ?_; rintro e w' ⟨rfl, rfl⟩)
  rw [HS9.out]
  obtain ⟨W0, hW0⟩ : ∃ W0, W9.alloc (.cells #[.func (.func gf) #[] lb] 26) = W0 := ⟨_, rfl⟩
  have hsz : W0.heap.size = W.heap.size + 4 := by rw [← hW0, World.size_alloc, HS9.out]
  have bY : Boxed W0 W.heap.size 54 (.func (.yield lp) #[] #[]) := by rw [← hW0]; exact HBY.out.alloc _
  have bA : Boxed W0 (W.heap.size + 1) 28 (.slice none 0 0) := by rw [← hW0]; exact HBA.out.alloc _
  have bZ : Boxed W0 (W.heap.size + 2) 39 (.int .u64 0) := by rw [← hW0]; exact HBZ.out.alloc _
  have bS : Boxed W0 (W.heap.size + 3) 26 (.func (.func gf) #[] lb) := by rw [← hW0, ← HS9.out]; exact Boxed.new W9 _ _
  obtain ⟨M, hM⟩ : ∃ M : Sq.Blocks, M = fun k => W.heap.size ≤ k ∧ k < W.heap.size + 4 := ⟨_, rfl⟩
  have hMm : ∀ k, M k ↔ W.heap.size ≤ k ∧ k < W.heap.size + 4 := fun k => by rw [hM]
  have hst0 : Sq.Kept (fun _ => True) W W0 := by rw [← hW0]; exact HST9.out.trans (Sq.Kept.alloc _ _ _)
  have hJ0 : J (ctR M (fun _ => False) (fun _ => False) W0) [] W0 := hJ _ _ _ _ _ h0 ⟨hst0.less fun _ _ _ => trivial, fun _ h => h.elim, fun k h => h.elim (fun h => h.1.elim) (fun h => h.elim (fun h => .inr ((hMm k).1 h).1) (fun h => h.elim))⟩
  have hT0 := HTW.out.kept (hst0.less fun _ _ _ => trivial)
  have HTL := Lib.hid (show ∀ k, T k → k < W.heap.size from by obtain ⟨gf, lb, _, _, h, _⟩ := HTW.out; exact h)
  have bR : Boxed W0 br 34 rv := hst0.boxed trivial hCWr
  have bO : Boxed W0 bo 4 (.bool bt) := hst0.boxed trivial hCWo
  have hrow1 : KRow F W W0 (fun _ => False) rv S := by
    obtain ⟨a, c, b, h1, h2, h3⟩ := hrow0
    exact ⟨a, c, b, h1, h2, fun j hj => hst0.cell (p := ⟨b, j, none⟩) trivial (h3 j hj)⟩
  have hkp0 := kp0 fl bt L
  rw [hW0]
  clear hW0 hM HS9 hcB9 HST9 HBY HBA HBZ hrow0
  refine Sq.wp_range rfl (by omega) (gf := 49) (lb := #[.pointer (some ⟨W.heap.size + 3, 0, none⟩)]) rfl trivial (enters_of Try.func49 (by kernel_rfl) rfl)
    (groups1_seq (n - 1) (by omega) (.func (.func gf) #[] lb) L T hL (W.heap.size + 3) W0 bS hT0) (fun k hk => hk.elim (fun h => by omega) (fun h => by have := HTL.out k h; omega)) (fun _ => rfl)
    (KpI F fl L J M W lp br bo rv S bt)
    (fun c R pre X => c = .ret ∧ ∃ p G, p <+: keep L fl bt ∧ Jx (ctR M G R X) p X)
    (fun a' x => KpA F fl L J M W lp br bo rv S bt (fun Bf => { tmps := #[.func (.yield lp) #[] #[], .pointer (some ⟨bs, 0, none⟩), .pointer (some ⟨br, 0, none⟩), .pointer (some ⟨bo, 0, none⟩), .pointer (some ⟨W.heap.size, 0, none⟩), .pointer (some ⟨W.heap.size + 1, 0, none⟩), .pointer (some ⟨W.heap.size + 2, 0, none⟩), .pointer (some ⟨Bf, 0, none⟩), .bool x.2, undef, undef, undef, .func (.func gf) #[] lb, .func (.func 49) #[] #[.pointer (some ⟨W.heap.size + 3, 0, none⟩)], .agg #[.string (Cd.bs x.1.key), .int .u64 x.1.seq, .bool x.1.del, .string (Cd.bs x.1.val)], .bool x.2, undef, undef, undef, undef, undef, undef, undef, undef, undef, undef, undef, undef, undef, undef, undef, undef, undef, undef, undef, undef, undef, undef, undef, undef, undef, undef, undef, undef, undef, undef, undef, undef, undef], defers := [] }) a' x)
    (fun R R' s X X' ⟨G, u, h⟩ st => ⟨G, u, h.step hJ st⟩)
    (fun c R R' s X X' ⟨h1, p, G, h2, h3⟩ st => ⟨h1, p, G, h2, hJx _ _ _ _ _ h3 (ctR_step st)⟩)
    (fun a' x => KpA.steady hJ)
    ⟨fun _ => False, .slice none 0 0, by rw [List.length_nil, hkp0.1]; exact hJ0, ⟨bA, fun h => h⟩, ⟨bZ, fun h => h⟩, ⟨bY, fun h => h⟩, ⟨bR, fun h => h⟩, ⟨bO, fun h => h⟩, hrow1, ⟨by rw [List.length_nil, hkp0.2]; exact World.ownsRow_nil _ _ _ _, fun _ h => by simp [Value.ownBlock] at h⟩, fun _ h => by simp [Value.ownBlock] at h, fun _ h => h.elim, by omega, fun _ h => h.elim⟩ ?assign ?body ?done ?stop
  case assign =>
    rintro lr R pre x X hbd hsp ⟨G, u, hi'⟩
    have hszX := hi'.size
    gi_wp2
    refine ⟨Sq.Kept.alloc _ _ _, _, u, X.heap.size, hi'.alloc hJ (fun k h => (hbd k h).2) _, ⟨Ob.Obj.new X _ _, .inr rfl, fun r hr e => by have := hi'.gl _ (hi'.g r hr); omega⟩, ?_⟩
    first | rfl | trivial
  case body =>
    rintro lr R pre x a' X hRl hrec hbd hsp ⟨G, u, Bf, hI, ⟨hf, hgf, hnf⟩, rfl⟩
    obtain ⟨hlt, hx1, hx2, hpre, _, hmem⟩ := gp_at hsp
    have hxi := hL x.1 hmem
    have hMm' := Lib.hid hMm
    have HBD := Lib.hid hbd
    have hbd2 : ∀ k, R k → k < X.heap.size := fun k hk => (hbd k hk).2
    have hM1 : M (W.heap.size + 1) := (hMm _).2 (by omega)
    have hM2 : M (W.heap.size + 2) := (hMm _).2 (by omega)
    have hneb : Bf ≠ W.heap.size + 1 := fun e => by have := (hI.gl _ hgf).1; omega
    have hneb2 : Bf ≠ W.heap.size + 2 := fun e => by have := (hI.gl _ hgf).1; omega
    obtain ⟨⟨xk, xs, xd, xv⟩, Fs⟩ := x
    simp only at hx1 hx2 hxi hf
    obtain ⟨ao, acap, rfl, _⟩ := Sq.row_cases hI.r.1
    have hlu := hI.l.1.cell
    have hlf := hI.l.1.frozen
    have hll := hI.l.1.lt
    obtain ⟨ra, rcap, rblk, hrv, hrb1, hrb2⟩ := hI.row
    subst hrv
    have hszX := hI.size
    have HI := Lib.hid hI
    have HF := Lib.hid hf
    have HNF := Lib.hid hnf
    clear hI hf hnf hrb1 hrb2
    have hKT : ∀ (v : Value), Sq.Kept (fun k => R k ∨ (k = W.heap.size + 3 ∨ T k)) X (X.setCell ⟨W.heap.size + 1, 0, none⟩ v) := fun v => Sq.Kept.setCell _ _ (by
      rintro (h | h | h)
      · exact HI.out.l.2 h
      · simp at h
      · have := HTL.out _ h; simp at this; omega)
    have HKT := Lib.hid hKT
    clear hKT
    have HX1 := Lib.hid hx1
    have HX2 := Lib.hid hx2
    clear hx1 hx2
    dsimp only
    gi_upto_if 16 with fail
    gi_cut [] from 17 (fun wx => ∃ (u' : Value) (hd' : List Ver), hd' = (if newG L pre.length = true then [] else pend fl bt L pre.length) ∧ (∀ r, u'.ownBlock = some r → Bf ≠ r) ∧ KpS F J M W lp br bo (.slice ra S.length rcap) S bt G u' hd' (kpF fl bt L pre.length) (ahd L pre.length) R wx ∧ Ob.Obj wx Bf 44 [.string (Cd.bs xk), .int .u64 xs, .bool xd, .string (Cd.bs xv)] ∧ Sq.Kept (fun k => R k ∨ (k = W.heap.size + 3 ∨ T k)) X wx)
    case first =>
      cases Fs with
      | true =>
        gi_wp2_with fail
        gi_meet
        exact ⟨.slice none 0 0, [], by rw [if_pos HX2.out.symm], fun r hr => by simp [Value.ownBlock] at hr, HI.out.drop hJ hM1 l2 l3, HF.out.other hneb _, HKT.out _⟩
      | false =>
        gi_wp2_with fail
        gi_meet
        exact ⟨_, _, by rw [if_neg (by rw [← HX2.out]; simp)], HNF.out, HI.out, HF.out, Sq.Kept.refl _ _⟩
    case rest =>
      obtain ⟨u', hd', hhd, hnf', hI2, hf2, hk2⟩ := hcut
      obtain ⟨X2, rfl⟩ : ∃ X2 : World, X2 = wc := ⟨_, rfl⟩
      clear HI HF HNF HKT hlu hlf hll
      have c1 := hI2.rb.1.cell
      have c2 := hI2.a.1.cell
      have f2 := hI2.a.1.frozen
      have v0 := hf2.cell 0
      have v1 := hf2.cell 1
      have v2 := hf2.cell 2
      have v3 := hf2.cell 3
      simp at v0 v1 v2 v3
      have HWI : Hid (∀ W9, W9 = X2 → Calls Try.prog 32 #[.slice ra S.length rcap, .int .u64 xs, .int .u64 (ahd L pre.length)] W9 fun e w' => e = .returned (.bool (S.any fun f => decide (xs ≤ f) && decide (f < ahd L pre.length))) ∧ w' = W9) := Lib.hid fun W9 e => by
        subst e
        obtain ⟨a', c', b', e1, e2, e3⟩ := hI2.row
        injection e1 with e4 e5 e6
        subst e4 e6
        exact So6.within_any ra rcap b' S xs (ahd L pre.length) W9 hSp (by rw [hS.length_eq]; omega) (fun h => (e2 h).1) e3
      have HND := Lib.hid (show kneed fl L pre.length = (Fs || S.any fun f => decide (xs ≤ f) && decide (f < ahd L pre.length)) by
        unfold kneed
        rw [← HX2.out]
        cases Fs with
        | true => rfl
        | false =>
          have hz : pre.length ≠ 0 := fun e => by have h9 := HX2.out; rw [e, newG_zero] at h9; cases h9
          rw [Bool.false_or, Bool.false_or, ← seen_of_rising hS L pre.length, ← HX1.out]
          unfold ahd
          rw [if_neg hz])
      generalize hah : ahd L pre.length = AH at *
      have HAH := Lib.hid hah
      clear hah
      have HI2 := Lib.hid hI2
      have HF2 := Lib.hid hf2
      have HNF2 := Lib.hid hnf'
      have HK2 := Lib.hid hk2
      have HHD := Lib.hid hhd
      clear hI2 hf2 hnf' hk2 hhd
      gi_upto_region 8 with fail
      gi_cut [9] from 17 (fun v wx => v = .bool (kneed fl L pre.length) ∧ wx = X2)
      case first =>
        cases Fs with
        | true =>
          gi_wp2_with fail
          first | refine ⟨trivial, ?_⟩ | refine ⟨fun _ _ => trivial, ?_⟩
          gi_wp2_with fail
          gi_meet
          exact ⟨by rw [HND.out]; rfl, rfl⟩
        | false =>
          have hdep : 1 ≤ n - 1 - 1 := by omega
          gi_wp2_with (refine ⟨trivial, ?_⟩; gi_at_call 32; refine (CallsIn.inRound lr (callsIn_wide.2 (HWI.out _ rfl))).mono ?_; rintro e w1 ⟨rfl, rfl⟩)
          gi_meet
          exact ⟨by rw [HND.out]; rfl, rfl⟩
      case rest =>
        obtain ⟨rfl, rfl⟩ := hcut
        have HI3 := Lib.hid (HI2.out.ahead hJ hM2 l2 l3 xs)
        have HF3 := Lib.hid (HF2.out.other (p := ⟨W.heap.size + 2, 0, none⟩) hneb2 (.int .u64 xs))
        have HK3 := Lib.hid (HK2.out.trans (Sq.Kept.setCell (T := fun k => R k ∨ (k = W.heap.size + 3 ∨ T k)) wc (p := ⟨W.heap.size + 2, 0, none⟩) (.int .u64 xs) (by
          rintro (h | h | h)
          · exact HI2.out.a.2 h
          · simp at h
          · have := HTL.out _ h; simp at this; omega)))
        have HLEN := Lib.hid (show (pre ++ [((⟨xk, xs, xd, xv⟩ : Ver), Fs)]).length = pre.length + 1 by simp)
        have HAS := Lib.hid (show ahd L (pre.length + 1) = xs by rw [ahd_succ, ← HX1.out])
        have hll := HI2.out.a.1.lt
        clear HWI HND HI2 HF2 HK2
        gi_upto_region 10 with fail
        generalize wc.setCell ⟨W.heap.size + 2, 0, none⟩ (.int .u64 xs) = X3 at *
        clear c1 c2 f2 v0 v1 v2 v3
        cases hN : kneed fl L pre.length with
        | false =>
          have HSK := Lib.hid (kp_skip (bottom := bt) hN)
          have HNG := Lib.hid (show newG L pre.length = false by unfold kneed at hN; rw [Bool.or_eq_false_iff] at hN; exact hN.1)
          have HHD2 := Lib.hid (show hd' = pend fl bt L pre.length by rw [HHD.out, if_neg (by rw [HNG.out]; simp)])
          clear hN
          gi_wp2_with fail
          refine ⟨HK3.out, G, u', ?_⟩
          rw [HLEN.out, HSK.out.1, HSK.out.2, HAS.out, ← HHD2.out]
          exact HI3.out
        | true =>
          obtain ⟨i0, hi0, hz0, hz1, hz2⟩ := info_parts info_Ver9
          have hlen : hd'.length ≤ 1048577 := by
            have := kheld_len fl bt L pre.length
            rw [← HHD.out] at this
            omega
          obtain ⟨ao', acap', rfl, _⟩ := Sq.row_cases HI3.out.r.1
          have cu := HI3.out.l.1.cell
          have hrow' := HI3.out.r.1.alloc (.cells #[.string (Cd.bs xk), .int .u64 xs, .bool xd, .string (Cd.bs xv)] 44)
          have v0 := HF3.out.cell 0
          have v1 := HF3.out.cell 1
          have v2 := HF3.out.cell 2
          have v3 := HF3.out.cell 3
          simp at v0 v1 v2 v3
          have hsz3 := HI3.out.size
          have hbd3 : ∀ k, R k → k < X3.heap.size := fun k hk => Nat.lt_of_lt_of_le (hbd k hk).2 HK3.out.size
          have HKH := Lib.hid (show kheld fl bt L pre.length = hd' ++ [⟨xk, xs, xd, xv⟩] by unfold kheld; rw [← HHD.out, ← HX1.out])
          have HGRW := Lib.hid (kpF_grows fl bt L (pre.length + 1) L.length (by omega))
          have hxd : (L.getD pre.length ver0).del = xd := by rw [← HX1.out]
          have hbdX := HBD.out
          have hlp := hpre
          gi_upto_region 11 with fail
          gi_cut [] from 29 (fun wx => ∃ (g cap : Nat), KpS F J M W lp br bo (.slice ra S.length rcap) S bt (fun k => G k ∨ k = g) (.slice (some ⟨g, 0, none⟩) (hd'.length + 1) cap) (hd' ++ [⟨xk, xs, xd, xv⟩]) (kpF fl bt L pre.length) xs R wx ∧ Ob.Obj wx Bf 44 [.string (Cd.bs xk), .int .u64 xs, .bool xd, .string (Cd.bs xv)] ∧ Sq.Kept (fun k => R k ∨ (k = W.heap.size + 3 ∨ T k)) X wx)
          case first =>
            have HNX := Lib.hid (fun X4 X5 g cap (h1 : Sq.Kept (fun _ => True) X3 X4) (h2 : X4.heap.size = X3.heap.size + 1) h3 h4 h5 => KpS.next (x := ⟨xk, xs, xd, xv⟩) (X1 := X4) (X3 := X5) (g := g) (cap := cap) (T := T) hJ hMm HTL.out l2 l3 HI3.out hbd3 h1 h2 h3 h4 h5)
            have HNFX := Lib.hid HNF2.out
            have hneX := Lib.hid hneb
            obtain ⟨XA, hXA⟩ : ∃ XA, X3.alloc (.cells #[.string (Cd.bs xk), .int .u64 xs, .bool xd, .string (Cd.bs xv)] 44) = XA := ⟨_, rfl⟩
            have hrowA : XA.ownsRow (W.heap.size + 4) 44 4 (.slice ao' hd'.length acap') hd'.length (vcs hd') := by rw [← hXA]; exact hrow'
            have hcellA : ∀ j u, [Value.string (Cd.bs xk), .int .u64 xs, .bool xd, .string (Cd.bs xv)][j]? = some u → XA.cell? ((⟨X3.heap.size, 0, none⟩ : Addr).add j) = some u := by rw [← hXA]; exact Vs.cell_four_new X3 _ _ _ _ _
            have honeA : ∀ u ∈ [Value.string (Cd.bs xk), .int .u64 xs, .bool xd, .string (Cd.bs xv)], u.oneCell' = true := by simp [Value.oneCell']
            have hszA : XA.heap.size = X3.heap.size + 1 := by rw [← hXA]; simp
            have hA1 : hd'.length + 1 ≤ maxLen := by unfold maxLen; omega
            have hA2 : (hd'.length + 1) * 48 ≤ 140737488355328 := by omega
            have hA3 : W.heap.size + 4 ≤ XA.heap.size := by omega
            have HKA := Lib.hid (show Sq.Kept (fun _ => True) X3 XA by rw [← hXA]; exact Sq.Kept.alloc _ _ _)
            have HZA := Lib.hid hszA
            have h04 : (0 : Nat) < 4 := by decide
            have h01 : (0 : Nat) < 1 := by decide
            have HGF := Lib.hid HI3.out.g
            clear hrow' hW hJ hJx HY HTW hCWs hCWr hCWo h0 hL hmany hS hSp hfl hCo hbdX HBD hlp hpre HGRW HKH hN hxd hMm hMm' HX1 HX2 HHD HAS HLEN HAH hbd hmem hxi hM1 hM2 hneb hneb2 HNF2 hlen hsz3 hbd3
            gi_wp2_with (refine wpListIn_append_lies XA rfl _ _ 28 rfl (W.heap.size + 4) 44 i0 (.agg #[.string ⟨#[]⟩, .int .u64 0, .bool false, .string ⟨#[]⟩]) 4 48 Try.underlying28 hi0 hz0 hz1 hz2 rfl h04 (.slice ao' hd'.length acap') hd'.length (vcs hd') rfl hrowA ⟨X3.heap.size, 0, none⟩ 1 1 [.string (Cd.bs xk), .int .u64 xs, .bool xd, .string (Cd.bs xv)] rfl rfl hcellA honeA h01 hA1 hA2 hA3 (X3.heap.size + 1) hszA ?_; intro g cap X5 hown2 hgrow hat hlt2; obtain ⟨z1, z2, z3, z4⟩ := HNX.out XA X5 g cap HKA.out HZA.out hown2 hgrow hat; have Z2 := Lib.hid z2; have Z3 := Lib.hid z3; have Z4 := Lib.hid z4; have q1 := z1.cell; have q2 := z1.frozen; have q3 := z1.lt; clear z1 z2 z3 z4 hown2 hgrow hat)
            gi_meet
            exact ⟨g, cap, Z2.out, Z4.out _ _ HF3.out HNFX.out hneX.out, HK3.out.trans Z3.out⟩
          case rest =>
          obtain ⟨g, cap, hI4, hf4, hk4⟩ := hcut
          obtain ⟨X4, rfl⟩ : ∃ X4 : World, X4 = wc := ⟨_, rfl⟩
          obtain ⟨H, hH⟩ : ∃ H, H = hd' ++ [(⟨xk, xs, xd, xv⟩ : Ver)] := ⟨_, rfl⟩
          have hHl : hd'.length + 1 = H.length := by rw [hH]; simp
          rw [← hH] at hI4
          have HKH2 := Lib.hid (HKH.out.trans hH.symm)
          rw [hHl] at hI4
          clear hH HKH HI3 HF3 HK3 v0 v1 v2 v3 cu hrow' hsz3 hbd3
          obtain ⟨G4, hG4⟩ : ∃ G4 : Sq.Blocks, G4 = (fun k => G k ∨ k = g) := ⟨_, rfl⟩
          rw [← hG4] at hI4
          clear hG4
          have w2 := hf4.cell 2
          simp at w2
          have wl := hf4.lt
          have cb := hI4.b.1.cell
          have bl := hI4.b.1.lt
          gi_upto_region 12 with fail
          gi_cut [37] from 33 (fun v wx => v = .bool (bt && xd) ∧ wx = X4)
          case first =>
            cases bt <;> cases xd
            all_goals gi_wp2_with fail
            all_goals (try (first | refine ⟨trivial, ?_⟩ | refine ⟨fun _ _ => trivial, ?_⟩))
            all_goals (try gi_wp2_with fail)
            all_goals gi_meet
            all_goals exact ⟨rfl, rfl⟩
          case rest =>
          obtain ⟨rfl, rfl⟩ := hcut
          cases hbx : (bt && xd) with
          | true =>
            obtain ⟨hp1, hp2⟩ := kp_hold (bottom := bt) hN (by rw [hxd]; exact hbx)
            have HP1 := Lib.hid hp1
            have HP2 := Lib.hid (hp2.trans HKH2.out)
            rw [Bool.and_eq_true] at hbx
            clear hp1 hp2 hN hxd hbx
            have HI4 := Lib.hid hI4
            have HK4 := Lib.hid hk4
            clear hI4 hk4
            gi_wp2_with fail
            refine ⟨HK4.out, G4, .slice (some ⟨g, 0, none⟩) H.length cap, ?_⟩
            rw [HLEN.out, HP1.out, HP2.out, HAS.out]
            exact HI4.out
          | false =>
            obtain ⟨hp1, hp2⟩ := kp_tell (bottom := bt) hN (by rw [hxd]; exact hbx)
            rw [HKH2.out] at hp1
            have HP1 := Lib.hid hp1
            have HP2 := Lib.hid hp2
            have HGR := Lib.hid (show kpF fl bt L pre.length ++ H <+: keep L fl bt by rw [← hp1]; exact HGRW.out)
            have hHn : H.length ≤ 2000000 := by omega
            clear hp1 hp2 hN hxd HKH2
            have HI4 := Lib.hid hI4
            have HK4 := Lib.hid hk4
            have lu := hI4.l.1.cell
            have ll := hI4.l.1.lt
            have hsz4 := hI4.size
            clear hI4 hk4
            obtain ⟨X4, rfl⟩ : ∃ X4 : World, X4 = wc := ⟨_, rfl⟩
            gi_wp2_with fail
            gi_loopw [40] (fun iv wr => ∃ (q : Nat) (G5 : Sq.Blocks), q ≤ H.length ∧ iv = .int .i64 (q : Int) ∧ KpS F J M W lp br bo (.slice ra S.length rcap) S bt G5 (.slice (some ⟨g, 0, none⟩) H.length cap) H (kpF fl bt L pre.length ++ H.take q) xs R wr ∧ Sq.Kept (fun k => R k ∨ (k = W.heap.size + 3 ∨ T k)) X wr) (fun iv _ => H.length - (intOf iv).toNat)
            case atStart => exact ⟨0, G4, Nat.zero_le _, rfl, by rw [List.take_zero, List.append_nil]; exact HI4.out, HK4.out⟩
            case round =>
              obtain ⟨q, G5, hq, rfl, hI5, hk5⟩ := hrel
              obtain ⟨X5, rfl⟩ : ∃ X5 : World, X5 = wr := ⟨_, rfl⟩
              have hbd5 : ∀ k, R k → k < X5.heap.size := fun k hk => Nat.lt_of_lt_of_le (hbdX k hk).2 hk5.size
              by_cases hlt : q < H.length
              · obtain ⟨a', c', b', o', e1, e2, e3⟩ := Vs.vers_of_own hI5.r.1
                obtain ⟨e4, e5⟩ := e2 (by omega)
                injection e1 with e6 e7 e8
                rw [e4] at e6
                injection e6 with e6
                injection e6 with e9 e10 e11
                subst e9 e10
                obtain ⟨y0, y1, y2, y3⟩ := e3 q hlt
                have hi1 : (0 : Int) ≤ (q : Int) ∧ (q : Int) < (H.length : Int) := by omega
                have hts := List.take_succ_eq_append_getElem hlt
                have hSP : kpF fl bt L pre.length ++ H.take q ++ [H[q]] <+: keep L fl bt := by
                  rw [List.append_assoc, ← hts]
                  exact (List.prefix_append_right_inj _).2 (List.take_prefix _ _) |>.trans HGR.out
                have hTS : kpF fl bt L pre.length ++ H.take (q + 1) = kpF fl bt L pre.length ++ H.take q ++ [H[q]] := by rw [hts, List.append_assoc]
                simp only [Nat.zero_add] at y0 y1 y2 y3
                have cY := hI5.y.1.cell
                have lY := hI5.y.1.lt
                have hgl : g < X5.heap.size := (hI5.gl g (hI5.g g rfl)).2.1
                generalize H[q] = x2 at *
                obtain ⟨k2, s2, d2, v2⟩ := x2
                simp only at y0 y1 y2 y3
                have hI6 := hI5.alloc hJ hbd5 (.cells #[.string (Cd.bs k2), .int .u64 s2, .bool d2, .string (Cd.bs v2)] 44)
                have hbd6 : ∀ k, R k → k < (X5.alloc (.cells #[.string (Cd.bs k2), .int .u64 s2, .bool d2, .string (Cd.bs v2)] 44)).heap.size := fun k hk => Nat.lt_of_lt_of_le (hbd5 k hk) (by simp)
                have hrg : ∀ k, ctR M (fun j => G5 j ∨ j = X5.heap.size) R (X5.alloc (.cells #[.string (Cd.bs k2), .int .u64 s2, .bool d2, .string (Cd.bs v2)] 44)) k → W.heap.size ≤ k ∧ k < (X5.alloc (.cells #[.string (Cd.bs k2), .int .u64 s2, .bool d2, .string (Cd.bs v2)] 44)).heap.size := by
                  rintro k (⟨h1, h2⟩ | h | h)
                  · exact ⟨hI6.lo k h1, h2⟩
                  · have h1 := (hMm k).1 h
                    have h2 := hI6.size
                    exact ⟨h1.1, by omega⟩
                  · have h1 := hI6.gl k h
                    exact ⟨by omega, h1.2.1⟩
                obtain ⟨fn, tmps, assign, body, hyy, hR⟩ := Sq.anyDepth rfl (n - 1 - 1 - 1) (HY.out (ctR M (fun j => G5 j ∨ j = X5.heap.size) R (X5.alloc (.cells #[.string (Cd.bs k2), .int .u64 s2, .bool d2, .string (Cd.bs v2)] 44))) _ ⟨k2, s2, d2, v2⟩ _ hI6.j hrg hSP)
                have HR := Lib.hid hR
                have HI6 := Lib.hid hI6
                have HK5 := Lib.hid hk5
                have HTS := Lib.hid hTS
                have HSP := Lib.hid hSP
                have HBD6 := Lib.hid hbd6
                clear hR hI6 hI5 hk5 hTS hSP hrg hbd6 hts e2 e3 e4 e5 e7 e8
                simp only [vEnc9] at hyy
                gi_wp2_with fail
                refine ⟨fun _ => by omega, ?_⟩
                refine (Sq.round_in lr HR.out).mono ?_
                rintro e X7 (⟨rfl, hj7, hk7⟩ | ⟨rfl, hjx7, hk7⟩)
                · have HI7 := Lib.hid (HI6.out.told hJ hMm (T := kcT F bs br bo T) (fun k h => .inl (.inr h)) (.inl (.inl (.inr (.inl rfl)))) (.inl (.inl (.inr (.inr rfl)))) HBD6.out hj7 hk7)
                  have HK7 := Lib.hid (HK5.out.trans ((Sq.Kept.alloc _ _ _).trans (hk7.less (fun k h hl => by
                    rcases h with h | h | h
                    · exact .inl (.inl ⟨h, hl⟩)
                    · exact .inl (.inr (.inl ((hMm _).2 (by omega))))
                    · exact .inr (.inr h)))))
                  clear hj7 hk7
                  gi_wp2_with fail
                  go_roundw
                  case rel => exact ⟨q + 1, _, by omega, by go_num, by rw [HTS.out]; exact HI7.out, HK7.out⟩
                  case measure => simp [intOf]; omega
                · have HK7 := Lib.hid (HK5.out.trans ((Sq.Kept.alloc _ _ _).trans (hk7.less (fun k h hl => by
                    rcases h with h | h | h
                    · exact .inl (.inl ⟨h, hl⟩)
                    · exact .inl (.inr (.inl ((hMm _).2 (by omega))))
                    · exact .inr (.inr h)))))
                  have HX7 := Lib.hid (hJx _ _ _ _ _ hjx7 (⟨Sq.Kept.refl _ _, fun k h => h.elim (fun h => .inl ⟨h.1, Nat.lt_of_lt_of_le h.2 hk7.size⟩) .inr, fun k h => .inl (h.elim (fun h => .inl ⟨h.1, HBD6.out k h.1⟩) .inr)⟩ : Sq.Step _ (ctR M (fun j => G5 j ∨ j = X5.heap.size) R X7) X7 X7))
                  clear hk7 hjx7
                  gi_wp2_with fail
                  exact ⟨HK7.out, rfl, _, _, HSP.out, HX7.out⟩
              · obtain rfl : q = H.length := by omega
                rw [List.take_length] at hI5
                have c7 := hI5.l.1.cell
                have f7 := hI5.l.1.frozen
                have l7 := hI5.l.1.lt
                have HI5 := Lib.hid hI5
                have HK5 := Lib.hid (hk5.trans (Sq.Kept.setCell (T := fun k => R k ∨ (k = W.heap.size + 3 ∨ T k)) X5 (p := ⟨W.heap.size + 1, 0, none⟩) (.slice none 0 0) (by
                  rintro (h | h | h)
                  · exact hI5.l.2 h
                  · simp at h
                  · have := HTL.out _ h; simp at this; omega)))
                clear hI5 hk5
                gi_wp2_with fail
                refine ⟨HK5.out, G5, .slice none 0 0, ?_⟩
                rw [HLEN.out, HP1.out, HP2.out, HAS.out]
                exact HI5.out.drop hJ hM1 l2 l3
  case done =>
    rintro D R ys X hD hRD rfl ⟨G, u, hI⟩ hdf
    have HJ := Lib.hid hI.j
    have HLN := Lib.hid (show kpF fl bt L (gp L).length = keep L fl bt by rw [gp_len]; rfl)
    clear hI
    gi_wp2_with fail
    refine ⟨by simp, .inl ⟨_, _, rfl, run_takeDeferred hdf, ?_⟩⟩
    exact ⟨_, results_none rfl _ _ _, ⟨_, rfl⟩, .inl ⟨_, HLN.out ▸ hJ _ _ _ _ _ HJ.out (ctR_step (Sq.Step.putObj _ _ hRD))⟩⟩
  case stop =>
    rintro D R c pre X hD hRD hsp ⟨rfl, p, G, hp, hj⟩ hdf
    gi_wp2_with fail
    refine ⟨by simp, .inl ⟨_, _, rfl, run_takeDeferred hdf, ?_⟩⟩
    exact ⟨_, results_none rfl _ _ _, ⟨_, rfl⟩, .inr ⟨p, hp, _, hJx _ _ _ _ _ hj (ctR_step (Sq.Step.putObj _ _ hRD))⟩⟩
end Mg
end Go.Proofs.Ythcllaombabpbaa
