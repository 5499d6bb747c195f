/-
  The walk of the law FrameWalks.
-/
import Derived.Test.YtgbfaabidplajaaFrameSeqB
import Derived.Test.YtgbfaabidplajaaFrameLawA
import Derived.Test.YtgbfaabidplajaaQuietRound
namespace Go.Proofs.Ytgbfaabidplajaa
open Go.RowKit Go.Shelf
set_option linter.unusedSimpArgs false
set_option linter.unusedVariables false

attribute [local go_sem] Oper.semAt_some

set_option maxRecDepth 100000 in
set_option maxHeartbeats 2000000 in
theorem shown_any (w : World) : Calls Try.prog 15 #[] w fun e w' => e = .returned (.bool true) ∧ Below w.heap.size w w' := by
  have p1 := Lib.hid fun W => sumc_same (Cd.bs [97]) W (by unfold maxLen; show 1 ≤ _; omega)
  have p2 := Lib.hid fun W => sumr_any (Cd.bs [97]) W (by unfold maxLen; show 1 ≤ _; omega)
  have hn : Fr.sum (Cd.bs [97]).data.toList ≠ 0 := by decide +kernel
  generalize Fr.sum (Cd.bs [97]).data.toList = m at *
  have hb : ((m : Int) == 0) = false := by simp; omega
  have hb2 : ((m : Int) != 0) = true := by simp; omega
  clear hn
  go_enter Try.func15, Try.ntmps15
  go_wp2_with (first
    | (go_at_call 9; refine (p1.out _).mono ?_; rintro e w' ⟨rfl, rfl⟩)
    | (go_at_call 12; refine (p2.out _).mono ?_; rintro e w' ⟨rfl, rfl⟩))
  go_ret
  exact ⟨rfl, Below.refl _ _⟩

/-- cells of a row of frames with their places -/
theorem atCells_get (L : List (Nat × Fr.Fm)) (i : Nat) (h : i < L.length) : (atCells L)[3 * i]? = some (.int .i64 (L[i].1 : Int)) ∧ (atCells L)[3 * i + 1]? = some (.int .u8 (L[i].2.1.toNat : Int)) ∧ (atCells L)[3 * i + 2]? = some (.string (Cd.bs L[i].2.2)) := by
  induction L generalizing i with
  | nil => simp at h
  | cons y r ih =>
    have e : atCells (y :: r) = .int .i64 y.1 :: .int .u8 y.2.1.toNat :: .string (Cd.bs y.2.2) :: atCells r := by simp [atCells]
    cases i with
    | zero => rw [e]; exact ⟨rfl, rfl, rfl⟩
    | succ i =>
      have := ih i (by simpa using h)
      rw [e, show 3 * (i + 1) = 3 * i + 1 + 1 + 1 from by omega]
      simpa using this
theorem all_few (l : List UInt8) (p : Nat) (hp : p ≤ l.length) : (Fr.allGo l p).1.length + p ≤ l.length := by
  by_cases h : p < l.length ∧ (Fr.take (l.drop p)).2.2 = 0 ∧ 0 < (Fr.take (l.drop p)).2.1
  · have hl := (Fr.take_len (l.drop p)).1
    rw [List.length_drop] at hl
    rw [Fr.allGo_more h]
    have := all_few l (p + (Fr.take (l.drop p)).2.1) (by omega)
    simp only [List.length_cons]; omega
  · rw [Fr.allGo_stop h]; simpa using hp
termination_by l.length - p
decreasing_by all_goals omega

/-- the body of the first range over a function in a code -/
def rangeBody : Code → Option Code
  | .rangeFunc _ _ _ b => some b
  | .loop c => rangeBody c
  | .seq a b => match rangeBody a with
    | some c => some c
    | none => rangeBody b
  | .block _ c => rangeBody c
  | .scope c => rangeBody c
  | .cond _ a b => match rangeBody a with
    | some c => some c
    | none => rangeBody b
  | _ => none
noncomputable def walksBody : Code := ((Try.f7.body.bind rangeBody).getD .skip)

def wkI (N : Nat) (X0 : World) (R : Sq.Blocks) (pre : List (Nat × Fr.Fm)) (X : World) : Prop :=
  (Boxed X (N + 1) 3 (.int .i64 (pre.length : Int)) ∧ ¬ R (N + 1)) ∧ (Sq.Kept (fun b => b ≠ N + 1) X0 X ∧ ∀ b, b ≠ N + 1 → b < X0.heap.size → ¬ R b)
def wkX (N k : Nat) (X0 : World) (c : Code) (R : Sq.Blocks) (pre : List (Nat × Fr.Fm)) (X : World) : Prop :=
  (c = .exit 2 ∧ k = 0) ∧ (∃ m : Nat, Boxed X (N + 1) 3 (.int .i64 (m : Int)) ∧ ¬ R (N + 1)) ∧ (Sq.Kept (fun b => b ≠ N + 1) X0 X ∧ ∀ b, b ≠ N + 1 → b < X0.heap.size → ¬ R b)
theorem wkI_steady (N : Nat) (X0 : World) : Sq.Steady (wkI N X0) := (Sq.Steady.box _ _ _).and (Sq.Steady.kept _ _)
theorem wkX_steady (N k : Nat) (X0 : World) (c : Code) : Sq.Steady (wkX N k X0 c) := (Sq.Steady.pure _).and ((Sq.Steady.ex fun m => Sq.Steady.box _ _ _).and (Sq.Steady.kept _ _))

set_option maxRecDepth 1000000 in
set_option maxHeartbeats 4000000 in
theorem walks_body (lr : Nat) (R : Sq.Blocks) (pre : List (Nat × Fr.Fm)) (x : Nat × Fr.Fm) (X X0 : World) (N dE Bk Bf k : Nat) (early : Int) (g m cap : Nat) {s0 s1 s2 s4 s5 s7 s9 s13 s14 s15 s16 s17 s18 s19 s20 s21 s22 s23 s24 s25 s26 s27 s28 s29 s30 s31 s32 s33 s34 s35 s36 s37 s38 s39 s40 s41 s42 s43 s44 s45 s46 s47 s48 s49 s50 s51 s52 s53 s54 s55 s56 s57 s58 s59 s60 s61 s62 s63 s64 s65 s66 s67 s68 s69 s70 s71 s72 s73 : Value}
    (hI : wkI N X0 R pre X) (hm : m ≤ 1048576) (hlen : pre.length < m) (hx1 : x.1 ≤ 1048576)
    (hcf0 : X.cell? ⟨Bf, 0, none⟩ = some (.int .u8 (x.2.1.toNat : Int))) (hcf1 : X.cell? ⟨Bf, 1, none⟩ = some (.string (Cd.bs x.2.2)))
    (hck : X.cell? ⟨Bk, 0, none⟩ = some (.int .i64 (k : Int))) (hcE : X.cell? ⟨dE, 0, none⟩ = some (.int .i64 early)) (hcW : X.cell? ⟨N, 0, none⟩ = some (.slice (some ⟨g, 0, none⟩) m cap))
    (hBk : Bk ≠ N + 1) (hdE : dE ≠ N + 1)
    (c0 : X.cell? ⟨g, pre.length * 3, none⟩ = some (.int .i64 (x.1 : Int))) (c1 : X.cell? ⟨g, pre.length * 3 + 1, none⟩ = some (.int .u8 (x.2.1.toNat : Int))) (c2 : X.cell? ⟨g, pre.length * 3 + 2, none⟩ = some (.string (Cd.bs x.2.2))) :
    Code.wpIn (Fence.wide.inRound lr) 10 Try.prog walksBody (Sq.post (· = N + 1 + 1) (wkI N X0) (wkX N k X0) R (pre ++ [x]) X) { tmps := #[s0, s1, s2, .pointer (some ⟨dE, 0, none⟩), s4, s5, .pointer (some ⟨N, 0, none⟩), s7, .pointer (some ⟨N + 1, 0, none⟩), s9, .pointer (some ⟨Bk, 0, none⟩), .int .i64 (x.1 : Int), .pointer (some ⟨Bf, 0, none⟩), s13, s14, s15, s16, s17, s18, s19, s20, s21, s22, s23, s24, s25, s26, s27, s28, s29, s30, s31, s32, s33, s34, s35, s36, s37, s38, s39, s40, s41, s42, s43, s44, s45, s46, s47, s48, s49, s50, s51, s52, s53, s54, s55, s56, s57, s58, s59, s60, s61, s62, s63, s64, s65, s66, s67, s68, s69, s70, s71, s72, s73], defers := [] } X := by
  conv => arg 4; whnf
  obtain ⟨⟨hb, hnb⟩, hk, hnk⟩ := hI
  have hcn := hb.cell
  have hfn := hb.frozen
  have hd1 : decide ((m : Int) ≤ (pre.length : Int)) = false := by simp; omega
  have hd2 : decide (m ≤ pre.length) = false := by simp; omega
  have HB := Lib.hid hb
  have HK := Lib.hid hk
  have HNK := Lib.hid hnk
  have HNB := Lib.hid hnb
  clear hb hk hnk hnb
  gi_wp2_with fail
  refine Qr.region_quiet (Qr.open_round lr) (by kernel_rfl) (by kernel_rfl) (by kernel_rfl) ?_
  repeat (go_big_quiet_step (fail))
  refine wpQuiet_nil ?_
  intro _ hw'
  obtain ⟨nq, hw''⟩ := hw'
  subst hw''
  gi_wp2_with fail
  all_goals
    have hb0 : Boxed (X.drewN nq) (N + 1) 3 (.int .i64 (pre.length : Int)) := HB.out
    have hb2 := hb0.set (.int .i64 ((pre.length : Int) + 1))
    have hk2 : ∀ T : Sq.Blocks, ¬ T (N + 1) → Sq.Kept T X ((X.drewN nq).setCell ⟨N + 1, 0, none⟩ (.int .i64 ((pre.length : Int) + 1))) := fun T hT => (Sq.Kept.drewN _ _ _).trans (Sq.Kept.setCell _ _ hT)
    have hkR := hk2 (fun b => R b ∨ b = N + 1 + 1) (by rintro (h | h); exact HNB.out h; omega)
    have hk0 := HK.out.trans (hk2 (fun b => b ≠ N + 1) (by simp))
    first
      | exact ⟨hkR, ⟨by simpa using hb2, HNB.out⟩, hk0, HNK.out⟩
      | exact ⟨hkR, ⟨rfl, by omega⟩, ⟨pre.length + 1, by simpa using hb2, HNB.out⟩, hk0, HNK.out⟩
      | exact ⟨hkR, ⟨rfl, by simp_all⟩, ⟨pre.length + 1, by simpa using hb2, HNB.out⟩, hk0, HNK.out⟩

/-- how far the loop is: read off the box of its variable -/
def kOf (a : Act) (w : World) : Nat := match a.tmps.getD 10 undef with
  | .pointer (some p) => match w.cell? p with | some (.int _ q) => q.toNat | _ => 0
  | _ => 0

set_option maxRecDepth 100000 in
set_option maxHeartbeats 4000000 in
theorem frameWalks_walk (s : ByteArray) (early : Int) (w : World) (hs : s.size ≤ 1048576) (u0 : -9223372036854775808 ≤ early) (u1 : early ≤ 9223372036854775807) :
    Calls Try.prog 7 #[.string s, .int .i64 early] w fun e w' => e = .returned (.bool true) ∧ Below w.heap.size w w' := by
  obtain ⟨l, rfl⟩ : ∃ l, s = Cd.bs l := ⟨s.data.toList, (Lib.mk_data s).symm⟩
  have hl : l.length ≤ 1048576 := hs
  have p2 := Lib.hid fun W => frameAllr_any l W hl
  have p4 := Lib.hid fun W => end_any l W (by omega)
  refine (callsIn_wide (n := 12)).1 ?_
  refine callsIn_of_wp_marks Try.func7 rfl trivial ?_ rfl
  simp only [Try.ntmps7, List.size_toArray, List.length_cons, List.length_nil, Nat.reduceAdd, Nat.reduceSub, Array.replicate_succ, Array.replicate_zero, List.push_toArray, List.append_toArray, List.nil_append, List.cons_append]
  gi_wp2_with (first
    | (refine ⟨trivial, ?_⟩; gi_at_call 15; refine (callsIn_wide.2 (shown_any _)).mono ?_; rintro e wa ⟨rfl, ha⟩; have hsa := ha.size; simp at hsa)
    | (refine ⟨trivial, ?_⟩; gi_at_call 16; refine (callsIn_wide.2 (p2.out _)).mono ?_; rintro e wb ⟨v, rfl, hown, hb⟩; have hsb := hb.size; obtain ⟨ao, cap, rfl, hg⟩ := Sq.row_cases hown)
    | (refine ⟨trivial, ?_⟩; gi_at_call 17; refine (all_in _ _ _).mono ?_; rintro e w' ⟨rfl, rfl⟩))
  have hBe : Boxed (wb.alloc (.cells #[.slice ao (Fr.all l).1.length cap] 38)) w.heap.size 3 (.int .i64 early) := by
    have h0 : Boxed ((w.alloc (.cells #[.int .i64 early] 3)).alloc (.cells #[.bool false] 4)) w.heap.size 3 (.int .i64 early) := (Boxed.new w _ _).alloc _
    exact ((Sq.Kept.of_below (T := fun _ => True) hb).boxed trivial ((Sq.Kept.of_below (T := fun _ => True) ha).boxed trivial h0)).alloc _
  have hBr : Boxed (wb.alloc (.cells #[.slice ao (Fr.all l).1.length cap] 38)) (w.heap.size + 1) 4 (.bool false) := by
    have h0 : Boxed ((w.alloc (.cells #[.int .i64 early] 3)).alloc (.cells #[.bool false] 4)) (w.heap.size + 1) 4 (.bool false) := by
      have := Boxed.new (w.alloc (.cells #[.int .i64 early] 3)) 4 (.bool false); rwa [World.size_alloc] at this
    exact ((Sq.Kept.of_below (T := fun _ => True) hb).boxed trivial ((Sq.Kept.of_below (T := fun _ => True) ha).boxed trivial h0)).alloc _
  have hBw := Boxed.new wb 38 (.slice ao (Fr.all l).1.length cap)
  have hKw : Below w.heap.size w wb := by
    have h1 : Below w.heap.size w ((w.alloc (.cells #[.int .i64 early] 3)).alloc (.cells #[.bool false] 4)) := ((Below.refl _ _).alloc (Nat.le_refl _) _).alloc (by simp) _
    exact (h1.trans (ha.mono (by simp; omega))).trans (hb.mono (by omega))
  obtain ⟨W0, hW0⟩ : ∃ W0, (((wb.alloc (.cells #[.slice ao (Fr.all l).1.length cap] 38)).alloc (.cells #[.int .i64 0] 3)).alloc (.cells #[.string (Cd.bs l)] 9)).alloc (.cells #[.int .i64 0] 3) = W0 := ⟨_, rfl⟩
  have hsz : W0.heap.size = wb.heap.size + 4 := by rw [← hW0]; simp
  have hkb : Sq.Kept (fun k => k < wb.heap.size) wb W0 := by rw [← hW0]; exact (((Sq.Kept.alloc _ _ _).trans (Sq.Kept.alloc _ _ _)).trans (Sq.Kept.alloc _ _ _)).trans (Sq.Kept.alloc _ _ _)
  have bE : Boxed W0 w.heap.size 3 (.int .i64 early) := by rw [← hW0]; exact ((hBe.alloc _).alloc _).alloc _
  have bR : Boxed W0 (w.heap.size + 1) 4 (.bool false) := by rw [← hW0]; exact ((hBr.alloc _).alloc _).alloc _
  have bW : Boxed W0 wb.heap.size 38 (.slice ao (Fr.all l).1.length cap) := by rw [← hW0]; exact ((hBw.alloc _).alloc _).alloc _
  have bN : Boxed W0 (wb.heap.size + 1) 3 (.int .i64 0) := by
    rw [← hW0]; have := Boxed.new (wb.alloc (.cells #[.slice ao (Fr.all l).1.length cap] 38)) 3 (.int .i64 0); rw [World.size_alloc] at this; exact (this.alloc _).alloc _
  have bS : Boxed W0 (wb.heap.size + 1 + 1) 9 (.string (Cd.bs l)) := by
    rw [← hW0]; have := Boxed.new ((wb.alloc (.cells #[.slice ao (Fr.all l).1.length cap] 38)).alloc (.cells #[.int .i64 0] 3)) 9 (.string (Cd.bs l)); rw [World.size_alloc, World.size_alloc] at this; exact this.alloc _
  have bK : Boxed W0 (wb.heap.size + 1 + 1 + 1) 3 (.int .i64 0) := by
    rw [← hW0]; have := Boxed.new (((wb.alloc (.cells #[.slice ao (Fr.all l).1.length cap] 38)).alloc (.cells #[.int .i64 0] 3)).alloc (.cells #[.string (Cd.bs l)] 9)) 3 (.int .i64 0); rwa [World.size_alloc, World.size_alloc, World.size_alloc] at this
  have hrow : W0.ownsRow wa.heap.size 45 3 (.slice ao (Fr.all l).1.length cap) (Fr.all l).1.length (atCells (Fr.all l).1) := Sq.row_kept hown hkb (fun g hg' => by
    by_cases h0 : 0 < (Fr.all l).1.length
    · obtain ⟨g', rfl, _, h2⟩ := hg h0
      obtain rfl : g' = g := by simpa [Value.ownBlock] using hg'
      exact h2
    · rcases hown.2 with ⟨h1, _⟩ | ⟨g', cap', cur, h1, _, h3, _⟩
      · rw [h1] at hg'; simp [Value.ownBlock] at hg'
      · rw [h1] at hg'
        obtain rfl : g' = g := by simpa [Value.ownBlock] using hg'
        exact (Array.getElem?_eq_some_iff.1 h3).1)
  have hgN : ∀ g, (Value.slice ao (Fr.all l).1.length cap).ownBlock = some g → g < wb.heap.size := fun g hg' => by
    rcases hown.2 with ⟨h1, _⟩ | ⟨g', cap', cur, h1, _, h3, _⟩
    · rw [h1] at hg'; simp [Value.ownBlock] at hg'
    · rw [h1] at hg'
      obtain rfl : g' = g := by simpa [Value.ownBlock] using hg'
      exact (Array.getElem?_eq_some_iff.1 h3).1
  have hKW : Sq.Kept (fun k => k < w.heap.size) w W0 := by
    refine (Sq.Kept.of_below (T := fun k => k < w.heap.size) hKw).trans (hkb.less ?_)
    intro k hk _; have := hKw.size; omega
  have hdN : w.heap.size + 1 < wb.heap.size := by omega
  rw [hW0]
  clear hW0 hBe hBr hBw hKw hkb ha hb hown hg
  obtain ⟨N3, hN3⟩ : ∃ N3, N3 = wb.heap.size + 3 := ⟨_, rfl⟩
  obtain ⟨T0, hT0⟩ : ∃ T0 : Sq.Blocks, T0 = fun k => k < N3 ∧ k ≠ wb.heap.size + 1 := ⟨_, rfl⟩
  have hTm : ∀ k, k < N3 → k ≠ wb.heap.size + 1 → T0 k := fun k h1 h2 => by rw [hT0]; exact ⟨h1, h2⟩
  have hAl : (Fr.all l).1.length ≤ 1048576 := by have := all_few l 0 (Nat.zero_le _); show (Fr.allGo l 0).1.length ≤ _; omega
  have hAx : ∀ x ∈ (Fr.all l).1, x.1 ≤ l.length ∧ x.2.2.length ≤ 262144 := by
    rw [Fr.all, Fr.allGo_shift]; exact Fr.shift_in l.length _ 0 (Nat.zero_le _) (Fr.endsGo_in l 0)
  refine wpIn_loop (fun a' wr => ∃ (k Bk : Nat) (nv : Nat) (Ds : List Nat) (u11 u12 u24 u25 u26 u27 u28 u29 u30 u31 u32 u33 u34 u35 u36 u37 u38 u39 u40 u41 u42 u43 u44 u45 u46 u47 u48 u49 u50 u51 u52 u53 u54 u55 u56 u57 u58 u59 u60 u61 u62 : Value), k ≤ 2 ∧ (N3 ≤ Bk ∧ Bk < wr.heap.size) ∧ Sq.Kept T0 W0 wr ∧ Boxed wr (wb.heap.size + 1) 3 (.int .i64 (nv : Int)) ∧ Boxed wr Bk 3 (.int .i64 (k : Int)) ∧ (k = 2 → nv = (Fr.all l).1.length) ∧ Ds.Nodup ∧ (∀ D ∈ Ds, N3 ≤ D ∧ wr.heap[D]? = some (.deferred (some []))) ∧
      a' = { tmps := #[.string (Cd.bs l), .int .i64 early, undef, .pointer (some ⟨w.heap.size, 0, none⟩), .pointer (some ⟨w.heap.size + 1, 0, none⟩), .bool true, .pointer (some ⟨wb.heap.size, 0, none⟩), .int .i64 ((Fr.all l).2 : Int), .pointer (some ⟨wb.heap.size + 1, 0, none⟩), .func (.func 25) #[] #[.pointer (some ⟨wb.heap.size + 1 + 1, 0, none⟩)], .pointer (some ⟨Bk, 0, none⟩), u11, u12, undef, .bool true, .bool true, .bool false, .tuple #[.slice ao (Fr.all l).1.length cap, .int .i64 ((Fr.all l).2 : Int)], .string (Cd.bs l), .tuple #[.slice ao (Fr.all l).1.length cap, .int .i64 ((Fr.all l).2 : Int)], .slice ao (Fr.all l).1.length cap, .int .i64 ((Fr.all l).2 : Int), .string (Cd.bs l), .func (.func 25) #[] #[.pointer (some ⟨wb.heap.size + 1 + 1, 0, none⟩)], u24, u25, u26, u27, u28, u29, u30, u31, u32, u33, u34, u35, u36, u37, u38, u39, u40, u41, u42, u43, u44, u45, u46, u47, u48, u49, u50, u51, u52, u53, u54, u55, u56, u57, u58, u59, u60, u61, u62, undef, undef, undef, undef, undef, undef, undef, undef, undef, undef, undef], defers := Ds.map Sq.mark })
    (fun a' wr => 2 - kOf a' wr) ?start ?round
  case start =>
    exact ⟨0, wb.heap.size + 1 + 1 + 1, 0, [], _, _, _, _, _, _, _, _, _, _, _, _, _, _, _, _, _, _, _, _, _, _, _, _, _, _, _, _, _, _, _, _, _, _, _, _, _, _, _, _, _, by omega, ⟨by omega, by omega⟩, Sq.Kept.refl _ _, bN, bK, by omega, List.nodup_nil, fun _ h => by simp at h, rfl⟩
  case round =>
    rintro a' wr ⟨k, Bk, nv, Ds, u11, u12, u24, u25, u26, u27, u28, u29, u30, u31, u32, u33, u34, u35, u36, u37, u38, u39, u40, u41, u42, u43, u44, u45, u46, u47, u48, u49, u50, u51, u52, u53, u54, u55, u56, u57, u58, u59, u60, u61, u62, hk2, ⟨hBk1, hBk2⟩, hK, hn, hkk, hnv, hnd, hds, rfl⟩
    have hck := hkk.cell
    have hfk := hkk.frozen
    have hcn := hn.cell
    have hfn := hn.frozen
    have hNB : Bk ≠ wb.heap.size + 1 := by omega
    by_cases hlt : k < 2
    · gi_wp2_with fail
      obtain ⟨X0, hX0⟩ : ∃ X0, wr.setCell ⟨wb.heap.size + 1, 0, none⟩ (.int .i64 0) = X0 := ⟨_, rfl⟩
      have bN0 : Boxed X0 (wb.heap.size + 1) 3 (.int .i64 0) := by rw [← hX0]; exact hn.set _
      have bK0 : Boxed X0 Bk 3 (.int .i64 (k : Int)) := by rw [← hX0]; exact hkk.other hNB _
      have hKX : Sq.Kept T0 W0 X0 := by rw [← hX0]; exact hK.trans (Sq.Kept.setCell _ _ (by rw [hT0]; simp))
      have hsX : X0.heap.size = wr.heap.size := by rw [← hX0]; simp [World.setCell]
      have hdX : ∀ D ∈ Ds, N3 ≤ D ∧ X0.heap[D]? = some (.deferred (some [])) := fun D hD => ⟨(hds D hD).1, by
        rw [← hX0]; exact (Below.heap_setCell _ _ _ _ (by have := (hds D hD).1; simp; omega)).trans (hds D hD).2⟩
      have bSX : Boxed X0 (wb.heap.size + 1 + 1) 9 (.string (Cd.bs l)) := hKX.boxed (hTm _ (by omega) (by omega)) bS
      have bEX : Boxed X0 w.heap.size 3 (.int .i64 early) := hKX.boxed (hTm _ (by omega) (by omega)) bE
      have bWX : Boxed X0 wb.heap.size 38 (.slice ao (Fr.all l).1.length cap) := hKX.boxed (hTm _ (by omega) (by omega)) bW
      have rowX := Sq.row_kept hrow hKX (fun g hg => hTm g (by have := hgN g hg; omega) (by have := hgN g hg; omega))
      rw [hX0]
      clear hX0 hck hfk hcn hfn
      refine Sq.wp_range rfl (by omega) (gf := 25) (lb := #[.pointer (some ⟨wb.heap.size + 1 + 1, 0, none⟩)]) rfl trivial (enters_of Try.func25 (by kernel_rfl) rfl)
        (all1_seq 11 (by omega) l (by omega) (wb.heap.size + 1 + 1) X0 bSX) (by rintro b rfl; omega) (fun _ => rfl)
        (wkI wb.heap.size X0) (wkX wb.heap.size k X0)
        (fun a' x R pre X => (wkI wb.heap.size X0 R pre X) ∧ ∃ Bf, (X.heap[Bf]? = some (.cells #[.int .u8 (x.2.1.toNat : Int), .string (Cd.bs x.2.2)] 23 (0, 0)) ∧ ¬ R Bf) ∧
          a' = { tmps := #[.string (Cd.bs l), .int .i64 early, undef, .pointer (some ⟨w.heap.size, 0, none⟩), .pointer (some ⟨w.heap.size + 1, 0, none⟩), .bool true, .pointer (some ⟨wb.heap.size, 0, none⟩), .int .i64 ((Fr.all l).2 : Int), .pointer (some ⟨wb.heap.size + 1, 0, none⟩), .func (.func 25) #[] #[.pointer (some ⟨wb.heap.size + 1 + 1, 0, none⟩)], .pointer (some ⟨Bk, 0, none⟩), .int .i64 (x.1 : Int), .pointer (some ⟨Bf, 0, none⟩), undef, .bool true, .bool true, .bool false, .tuple #[.slice ao (Fr.all l).1.length cap, .int .i64 ((Fr.all l).2 : Int)], .string (Cd.bs l), .tuple #[.slice ao (Fr.all l).1.length cap, .int .i64 ((Fr.all l).2 : Int)], .slice ao (Fr.all l).1.length cap, .int .i64 ((Fr.all l).2 : Int), .string (Cd.bs l), .func (.func 25) #[] #[.pointer (some ⟨wb.heap.size + 1 + 1, 0, none⟩)], .int .i64 (k : Int), .bool true, u26, u27, .func (.func 25) #[] #[.pointer (some ⟨wb.heap.size + 1 + 1, 0, none⟩)], .int .i64 (x.1 : Int), .agg #[.int .u8 (x.2.1.toNat : Int), .string (Cd.bs x.2.2)], u31, u32, u33, u34, u35, u36, u37, u38, u39, u40, u41, u42, u43, u44, u45, u46, u47, u48, u49, u50, u51, u52, u53, u54, u55, u56, u57, u58, u59, u60, u61, u62, undef, undef, undef, undef, undef, undef, undef, undef, undef, undef, undef], defers := [] })
        (wkI_steady _ _) (fun c => wkX_steady _ _ _ _)
        (fun a' x => (wkI_steady _ _).and (Sq.Steady.ex fun Bf => (Sq.Steady.obj _ _).and (fun _ _ _ _ _ hs _ => hs)))
        ⟨⟨bN0, fun h => h⟩, Sq.Kept.refl _ _, fun _ _ _ h => h⟩ ?assign ?body ?done ?stop
      case assign =>
        rintro lr R pre x X hbd hsp ⟨⟨hb, hnb⟩, hk, hnk⟩
        gi_wp2
        refine ⟨Sq.Kept.alloc _ _ _, ⟨⟨hb.alloc _, hnb⟩, hk.trans (Sq.Kept.alloc _ _ _), hnk⟩, X.heap.size, ⟨World.alloc_heap_new X _, fun h => by have := hbd _ h; omega⟩, ?_⟩
        first | rfl | trivial
      case body =>
        rintro lr R pre x a' X hRl hrec hbd hsp ⟨hI, Bf, ⟨hf, hnf⟩, rfl⟩
        have hcf0 : X.cell? ⟨Bf, 0, none⟩ = some (.int .u8 (x.2.1.toNat : Int)) := by simp [World.cell?, hf]
        have hcf1 : X.cell? ⟨Bf, 1, none⟩ = some (.string (Cd.bs x.2.2)) := by simp [World.cell?, hf]
        have hk := hI.2.1
        have hck := (hk.boxed (by omega) bK0).cell
        have hcE := (hk.boxed (by omega) bEX).cell
        have hcW := (hk.boxed (by omega) bWX).cell
        have rowX2 := Sq.row_kept rowX hk (fun g hg => by have := hgN g hg; omega)
        obtain ⟨r, hr⟩ := hsp
        have hlen : pre.length < (Fr.all l).1.length := by rw [← hr]; simp
        have hxi : (Fr.all l).1[pre.length] = x := by simp [← hr]
        have hx1 : x.1 ≤ 1048576 := by
          have := hAx x (by rw [← hxi]; exact List.getElem_mem hlen)
          omega
        obtain ⟨ao', cap', hv, hg⟩ := Sq.row_cases rowX2
        obtain ⟨g, rfl, hg1, hg2⟩ := hg (by omega)
        simp only [Value.slice.injEq, true_and] at hv
        obtain ⟨rfl, rfl⟩ := hv
        have cells := atCells_get (Fr.all l).1 pre.length hlen
        rw [hxi, Nat.mul_comm 3 pre.length] at cells
        exact walks_body lr R pre x X X0 wb.heap.size w.heap.size Bk Bf k early g (Fr.all l).1.length cap hI hAl hlen hx1 hcf0 hcf1 hck hcE hcW hNB (by omega)
          ((rowX2.cellAt (pre.length * 3) (by omega)).trans cells.1) ((rowX2.cellAt (pre.length * 3 + 1) (by omega)).trans cells.2.1) ((rowX2.cellAt (pre.length * 3 + 2) (by omega)).trans cells.2.2)
      case done =>
        rintro D R xs X hD hRD rfl ⟨⟨hb, hnb⟩, hk, hnk⟩ hdf
        have hkb := hk.boxed (by omega) bK0
        have hck := hkb.cell
        have hKX2 := hKX.trans (hk.less (T' := T0) (by rw [hT0]; rintro b ⟨_, h⟩ _; exact h))
        gi_wp2_with fail
        have hsz3 : wb.heap.size + 4 ≤ X0.heap.size := by rw [← hsz]; exact hKX.size
        have hszX := hk.size
        refine ⟨⟨k + 1, X.heap.size, (Fr.all l).1.length, D :: Ds, _, _, _, _, _, _, _, _, _, _, _, _, _, _, _, _, _, _, _, _, _, _, _, _, _, _, _, _, _, _, _, _, _, _, _, _, _, _, _, _, _, by omega, ⟨by omega, by simp⟩, hKX2.trans (Sq.Kept.alloc _ _ _), hb.alloc _, by simpa using Boxed.new X 3 (.int .i64 ((k : Int) + 1)), fun _ => rfl, ?_, ?_, rfl⟩, ?_⟩
        · exact List.nodup_cons.2 ⟨fun h => by have := (Array.getElem?_eq_some_iff.1 (hdX D h).2).1; omega, hnd⟩
        · intro E hE
          rcases List.mem_cons.1 hE with rfl | hE
          · exact ⟨by omega, (Below.heap_alloc _ _ _ (Array.getElem?_eq_some_iff.1 hdf).1).trans hdf⟩
          · have h1 := hdX E hE
            have h2 := (hk.block E (by omega) (Array.getElem?_eq_some_iff.1 h1.2).1).trans h1.2
            exact ⟨h1.1, (Below.heap_alloc _ _ _ (Array.getElem?_eq_some_iff.1 h2).1).trans h2⟩
        · have e2 := hkk.cell
          have e1 := (Boxed.new X 3 (.int .i64 ((k : Int) + 1))).cell
          simp only [kOf, Array.getD_eq_getD_getElem?, List.getElem?_toArray, List.getElem?_cons_succ, List.getElem?_cons_zero, Option.getD_some, e1, e2]
          omega
      case stop =>
        rintro D R c pre X hD hRD hsp ⟨⟨rfl, rfl⟩, ⟨m, hb, hnb⟩, hk, hnk⟩ hdf
        have hkb := hk.boxed (by omega) bK0
        have hck := hkb.cell
        have hKX2 := hKX.trans (hk.less (T' := T0) (by rw [hT0]; rintro b ⟨_, h⟩ _; exact h))
        gi_wp2_with fail
        have hsz3 : wb.heap.size + 4 ≤ X0.heap.size := by rw [← hsz]; exact hKX.size
        have hszX := hk.size
        refine ⟨⟨0 + 1, X.heap.size, m, D :: Ds, _, _, _, _, _, _, _, _, _, _, _, _, _, _, _, _, _, _, _, _, _, _, _, _, _, _, _, _, _, _, _, _, _, _, _, _, _, _, _, _, _, by omega, ⟨by omega, by simp⟩, hKX2.trans (Sq.Kept.alloc _ _ _), hb.alloc _, by simpa using Boxed.new X 3 (.int .i64 (1 : Int)), fun h => by omega, ?_, ?_, rfl⟩, ?_⟩
        · exact List.nodup_cons.2 ⟨fun h => by have := (Array.getElem?_eq_some_iff.1 (hdX D h).2).1; omega, hnd⟩
        · intro E hE
          rcases List.mem_cons.1 hE with rfl | hE
          · exact ⟨by omega, (Below.heap_alloc _ _ _ (Array.getElem?_eq_some_iff.1 hdf).1).trans hdf⟩
          · have h1 := hdX E hE
            have h2 := (hk.block E (by omega) (Array.getElem?_eq_some_iff.1 h1.2).1).trans h1.2
            exact ⟨h1.1, (Below.heap_alloc _ _ _ (Array.getElem?_eq_some_iff.1 h2).1).trans h2⟩
        · have e2 := hkk.cell
          have e1 := (Boxed.new X 3 (.int .i64 (1 : Int))).cell
          simp only [kOf, Array.getD_eq_getD_getElem?, List.getElem?_toArray, List.getElem?_cons_succ, List.getElem?_cons_zero, Option.getD_some, e1, e2]
          omega
    · obtain rfl : k = 2 := by omega
      obtain rfl := hnv rfl
      have hcW := (hK.boxed (hTm _ (by omega) (by omega)) bW).cell
      have hbR := hK.boxed (hTm _ (by omega) (by omega)) bR
      have hlR := hbR.lt
      have hlN := hn.lt
      gi_wp2_with (refine ⟨trivial, ?_⟩; gi_at_call 18; refine (callsIn_wide.2 (p4.out _)).mono ?_; rintro e we ⟨rfl, he⟩; have hkE : Sq.Kept (fun _ => True) wr we := Sq.Kept.of_below he; have hcW2 := (hkE.boxed trivial (hK.boxed (hTm _ (by omega) (by omega)) bW)).cell; have hcR2 := (hkE.boxed trivial hbR).cell; have hfR2 := (hkE.boxed trivial hbR).frozen; have hcn2 := (hkE.boxed trivial hn).cell)
      refine Sq.leaves_marks Ds _ hnd (fun D hD => ?_) (fun W' hk' => ⟨.bool true, ?_, rfl, ?_⟩)
      · have h1 := hds D hD
        have h2 := (hkE.block D trivial (Array.getElem?_eq_some_iff.1 h1.2).1).trans h1.2
        exact (Below.heap_setCell _ _ _ _ (by simp; omega)).trans h2
      · have c4 : W'.cell? ⟨w.heap.size + 1, 0, none⟩ = some (.bool true) := hk'.cell (by intro h; have := (hds _ h).1; simp at this; omega) ((hkE.boxed trivial hbR).set _).cell
        simp [results, Try.results7, go_sem, c4]
      · have k1 : Sq.Kept (fun b => b < w.heap.size) W0 wr := hK.less (fun b hb _ => hTm b (by omega) (by omega))
        have k2 : Sq.Kept (fun b => b < w.heap.size) wr we := hkE.less (fun _ _ _ => trivial)
        have k3 : Sq.Kept (fun b => b < w.heap.size) we (we.setCell ⟨w.heap.size + 1, 0, none⟩ (.bool true)) := Sq.Kept.setCell _ _ (by simp)
        exact ((((hKW.trans k1).trans k2).trans k3).trans (hk'.less (fun b hb _ h => by have := (hds _ h).1; omega))).below (fun _ h => h) (Nat.le_refl _)
end Go.Proofs.Ytgbfaabidplajaa
