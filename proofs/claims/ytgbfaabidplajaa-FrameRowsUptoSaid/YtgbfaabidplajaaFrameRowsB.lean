/-
  The walk of the law FrameRows.
-/
import Derived.Test.YtgbfaabidplajaaFrameWalks
import Derived.Test.YtgbfaabidplajaaFrameRowsP
import Derived.Deep.RegionLaw
import Derived.Deep.RegionHeld3
import Derived.Deep.AppendLies
import Derived.OwnWalk
import Derived.WalkSpells
import Derived.StillTactics
namespace Go.Proofs.Ytgbfaabidplajaa
open Go.RowKit Go.Shelf
set_option linter.unusedSimpArgs false
set_option linter.unusedVariables false

attribute [local go_sem] Oper.semAt_some

theorem info_Frame : (Try.prog.info? 23).map (fun i => (i.zero, i.size, i.bytes)) = some (some (.agg #[.int .u8 0, .string ⟨#[]⟩]), 2, 24) := by kernel_rfl
/-- frames as cells -/
def fmCells (l : List Fr.Fm) : List Value := (l.map fun x => [Value.int .u8 x.1.toNat, .string (Cd.bs x.2)]).flatten
theorem fmCells_snoc (l : List Fr.Fm) (x : Fr.Fm) : fmCells (l ++ [x]) = fmCells l ++ [.int .u8 x.1.toNat, .string (Cd.bs x.2)] := by simp [fmCells]
theorem fmCells_get (l : List Fr.Fm) (i : Nat) (h : i < l.length) : (fmCells l)[i * 2]? = some (.int .u8 (l[i].1.toNat : Int)) ∧ (fmCells l)[i * 2 + 1]? = some (.string (Cd.bs l[i].2)) := by
  induction l generalizing i with
  | nil => simp at h
  | cons y r ih =>
    have e : fmCells (y :: r) = .int .u8 y.1.toNat :: .string (Cd.bs y.2) :: fmCells r := by simp [fmCells]
    cases i with
    | zero => rw [e]; exact ⟨rfl, rfl⟩
    | succ i =>
      have := ih i (by simpa using h)
      rw [e, show (i + 1) * 2 = i * 2 + 1 + 1 from by omega]
      simpa using this

noncomputable def rowsBody : Code := ((Try.f8.body.bind rangeBody).getD .skip)

def rwI (N : Nat) (X0 : World) (R : Sq.Blocks) (pre : List (Nat × Fr.Fm)) (X : World) : Prop :=
  (Boxed X N 3 (.int .i64 (pre.length : Int)) ∧ ¬ R N) ∧ (Sq.Kept (fun b => b ≠ N) X0 X ∧ ∀ b, b ≠ N → b < X0.heap.size → ¬ R b)
theorem rwI_steady (N : Nat) (X0 : World) : Sq.Steady (rwI N X0) := (Sq.Steady.box _ _ _).and (Sq.Steady.kept _ _)

set_option maxRecDepth 1000000 in
set_option maxHeartbeats 4000000 in
theorem rows_body1 (lr : Nat) (R : Sq.Blocks) (pre : List (Nat × Fr.Fm)) (x : Nat × Fr.Fm) (X X0 : World) (N Pb Bf : Nat) (ao : Option Addr) (m cap : Nat) {s0 s1 s2 s3 s4 s5 s6 s8 s9 s10 s14 s15 s16 s17 s18 s19 s20 s21 s22 s23 s24 s25 s26 s27 s28 s29 s30 s31 s32 s33 s34 s35 s36 s37 s38 s39 s40 s41 s42 s43 s44 s45 s46 s47 s48 s49 s50 s51 s52 s53 s54 s55 s56 s57 s58 s59 s60 s61 s62 s63 s64 s65 s66 s67 s68 s69 s70 s71 s72 s73 s74 s75 s76 s77 s78 s79 s80 s81 s82 s83 s84 s85 s86 s87 s88 s89 s90 s91 s92 s93 s94 s95 s96 s97 s98 s99 s100 s101 s102 s103 s104 s105 s106 s107 s108 s109 s110 s111 s112 : Value}
    (hI : rwI N X0 R pre X) (hm : m ≤ 1048576) (hpl : pre.length ≤ 16777216)
    (hcf0 : X.cell? ⟨Bf, 0, none⟩ = some (.int .u8 (x.2.1.toNat : Int))) (hcf1 : X.cell? ⟨Bf, 1, none⟩ = some (.string (Cd.bs x.2.2)))
    (hcP : X.cell? ⟨Pb, 0, none⟩ = some (.slice ao m cap)) (hPb : Pb ≠ N)
    (g : Nat) (hao : ao = some ⟨g, 0, none⟩) (hlt : pre.length < m) (c0 : X.cell? ⟨g, pre.length * 2, none⟩ = some (.int .u8 (x.2.1.toNat : Int))) (c1 : X.cell? ⟨g, pre.length * 2 + 1, none⟩ = some (.string (Cd.bs x.2.2))) :
    Code.wpIn (Fence.wide.inRound lr) 10 Try.prog rowsBody (Sq.post (· = N + 1) (rwI N X0) (fun _ _ _ _ => False) R (pre ++ [x]) X) { tmps := #[s0, s1, s2, s3, s4, s5, s6, .pointer (some ⟨Pb, 0, none⟩), s8, s9, s10, .pointer (some ⟨N, 0, none⟩), .int .i64 (x.1 : Int), .pointer (some ⟨Bf, 0, none⟩), s14, s15, s16, s17, s18, s19, s20, s21, s22, s23, s24, s25, s26, s27, s28, s29, s30, s31, s32, s33, s34, s35, s36, s37, s38, s39, s40, s41, s42, s43, s44, s45, s46, s47, s48, s49, s50, s51, s52, s53, s54, s55, s56, s57, s58, s59, s60, s61, s62, s63, s64, s65, s66, s67, s68, s69, s70, s71, s72, s73, s74, s75, s76, s77, s78, s79, s80, s81, s82, s83, s84, s85, s86, s87, s88, s89, s90, s91, s92, s93, s94, s95, s96, s97, s98, s99, s100, s101, s102, s103, s104, s105, s106, s107, s108, s109, s110, s111, s112], defers := [] } X := by
  conv => arg 4; whnf
  obtain ⟨⟨hb, hnb⟩, hk, hnk⟩ := hI
  have hcn := hb.cell
  have hfn := hb.frozen
  subst hao
  have hd1 : decide ((pre.length : Int) < (m : Int)) = true := by simp; omega
  have hd2 : decide (pre.length < m) = true := by simp; omega
  have hi0 : (0 : Int) ≤ (pre.length : Int) ∧ (pre.length : Int) < (m : Int) := by omega
  have hneg : decide ((x.1 : Int) < 0) = false := by simp
  have HB := Lib.hid hb
  have HK := Lib.hid hk
  have HNK := Lib.hid hnk
  have HNB := Lib.hid hnb
  clear hb hk hnk hnb
  gi_wp2_with fail
  refine Qr.region_quiet (Qr.open_round lr) (by kernel_rfl) (by kernel_rfl) (by kernel_rfl) ?_
  repeat (go_big_quiet_step (fail))
  refine wpQuiet_nil ?_
  intro _ hw'
  obtain ⟨nq, hw''⟩ := hw'
  subst hw''
  gi_wp2_with fail
  have hb0 : Boxed (X.drewN nq) N 3 (.int .i64 (pre.length : Int)) := HB.out
  have hb2 := hb0.set (.int .i64 ((pre.length : Int) + 1))
  have hk2 : ∀ T : Sq.Blocks, ¬ T N → Sq.Kept T X ((X.drewN nq).setCell ⟨N, 0, none⟩ (.int .i64 ((pre.length : Int) + 1))) := fun T hT => (Sq.Kept.drewN _ _ _).trans (Sq.Kept.setCell _ _ hT)
  have hkR := hk2 (fun b => R b ∨ b = N + 1) (by rintro (h | h); exact HNB.out h; omega)
  have hk0 := HK.out.trans (hk2 (fun b => b ≠ N) (by simp))
  exact ⟨hkR, ⟨by simpa using hb2, HNB.out⟩, hk0, HNK.out⟩

set_option maxRecDepth 1000000 in
set_option maxHeartbeats 4000000 in
theorem rows_body2 (lr : Nat) (R : Sq.Blocks) (pre : List (Nat × Fr.Fm)) (x : Nat × Fr.Fm) (X X0 : World) (N Pb Bf : Nat) (ao : Option Addr) (m cap : Nat) {s0 s1 s2 s3 s4 s5 s6 s8 s9 s10 s14 s15 s16 s17 s18 s19 s20 s21 s22 s23 s24 s25 s26 s27 s28 s29 s30 s31 s32 s33 s34 s35 s36 s37 s38 s39 s40 s41 s42 s43 s44 s45 s46 s47 s48 s49 s50 s51 s52 s53 s54 s55 s56 s57 s58 s59 s60 s61 s62 s63 s64 s65 s66 s67 s68 s69 s70 s71 s72 s73 s74 s75 s76 s77 s78 s79 s80 s81 s82 s83 s84 s85 s86 s87 s88 s89 s90 s91 s92 s93 s94 s95 s96 s97 s98 s99 s100 s101 s102 s103 s104 s105 s106 s107 s108 s109 s110 s111 s112 : Value}
    (hI : rwI N X0 R pre X) (hm : m ≤ 1048576) (hpl : pre.length ≤ 16777216)
    (hcf0 : X.cell? ⟨Bf, 0, none⟩ = some (.int .u8 (x.2.1.toNat : Int))) (hcf1 : X.cell? ⟨Bf, 1, none⟩ = some (.string (Cd.bs x.2.2)))
    (hcP : X.cell? ⟨Pb, 0, none⟩ = some (.slice ao m cap)) (hPb : Pb ≠ N)
    (hlt : m ≤ pre.length) :
    Code.wpIn (Fence.wide.inRound lr) 10 Try.prog rowsBody (Sq.post (· = N + 1) (rwI N X0) (fun _ _ _ _ => False) R (pre ++ [x]) X) { tmps := #[s0, s1, s2, s3, s4, s5, s6, .pointer (some ⟨Pb, 0, none⟩), s8, s9, s10, .pointer (some ⟨N, 0, none⟩), .int .i64 (x.1 : Int), .pointer (some ⟨Bf, 0, none⟩), s14, s15, s16, s17, s18, s19, s20, s21, s22, s23, s24, s25, s26, s27, s28, s29, s30, s31, s32, s33, s34, s35, s36, s37, s38, s39, s40, s41, s42, s43, s44, s45, s46, s47, s48, s49, s50, s51, s52, s53, s54, s55, s56, s57, s58, s59, s60, s61, s62, s63, s64, s65, s66, s67, s68, s69, s70, s71, s72, s73, s74, s75, s76, s77, s78, s79, s80, s81, s82, s83, s84, s85, s86, s87, s88, s89, s90, s91, s92, s93, s94, s95, s96, s97, s98, s99, s100, s101, s102, s103, s104, s105, s106, s107, s108, s109, s110, s111, s112], defers := [] } X := by
  conv => arg 4; whnf
  obtain ⟨⟨hb, hnb⟩, hk, hnk⟩ := hI
  have hcn := hb.cell
  have hfn := hb.frozen
  have hd1 : decide ((pre.length : Int) < (m : Int)) = false := by simp; omega
  have hd2 : decide (pre.length < m) = false := by simp; omega
  have hneg : decide ((x.1 : Int) < 0) = false := by simp
  have HB := Lib.hid hb
  have HK := Lib.hid hk
  have HNK := Lib.hid hnk
  have HNB := Lib.hid hnb
  clear hb hk hnk hnb
  gi_wp2_with fail
  refine Qr.region_quiet (Qr.open_round lr) (by kernel_rfl) (by kernel_rfl) (by kernel_rfl) ?_
  repeat (go_big_quiet_step (fail))
  refine wpQuiet_nil ?_
  intro _ hw'
  obtain ⟨nq, hw''⟩ := hw'
  subst hw''
  gi_wp2_with fail
  have hb0 : Boxed (X.drewN nq) N 3 (.int .i64 (pre.length : Int)) := HB.out
  have hb2 := hb0.set (.int .i64 ((pre.length : Int) + 1))
  have hk2 : ∀ T : Sq.Blocks, ¬ T N → Sq.Kept T X ((X.drewN nq).setCell ⟨N, 0, none⟩ (.int .i64 ((pre.length : Int) + 1))) := fun T hT => (Sq.Kept.drewN _ _ _).trans (Sq.Kept.setCell _ _ hT)
  have hkR := hk2 (fun b => R b ∨ b = N + 1) (by rintro (h | h); exact HNB.out h; omega)
  have hk0 := HK.out.trans (hk2 (fun b => b ≠ N) (by simp))
  exact ⟨hkR, ⟨by simpa using hb2, HNB.out⟩, hk0, HNK.out⟩

end Go.Proofs.Ytgbfaabidplajaa
