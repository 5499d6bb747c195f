/-
  The program's disk: the small calls, a disk that is nil, and all that it owes.
-/
import Derived.Test.YtdidcopfkjnkdaaBlockDevC
import Derived.Test.YtdidcopfkjnkdaaBlockDevE
namespace Go.Proofs.Ytdidcopfkjnkdaa
open Go.RowKit Go.Maps
set_option linter.unusedSimpArgs false
set_option linter.unusedVariables false

namespace Bd
variable {B0 b mb : Nat} {S : Sq.Blocks} {σ σ' : Bl.St} {W W' : World} {sv wv : Value}

set_option maxRecDepth 100000 in
set_option maxHeartbeats 1000000 in
theorem arm_any (h : Rows B0 b S σ W sv wv mb) (n : Int) (hn : -9223372036854775808 ≤ n ∧ n ≤ 9223372036854775807) :
    Calls Try.prog 22 #[.pointer (some ⟨b, 0, none⟩), .int .i64 n] W fun e w' => (∃ v, e = .returned v) ∧ ∃ S', At B0 b S' (Bl.arm σ n) w' ∧ Sq.Step S S' W w' := by
  have c4 := h.obj.cell 4
  have f4 := h.obj.frozen 4
  simp [cells] at c4
  obtain ⟨n1, n2⟩ := hn
  obtain ⟨m, hmx⟩ : ∃ m : Nat, max n 0 = (m : Int) := ⟨n.toNat, by omega⟩
  have h4 : Rows B0 b S (Bl.arm σ n) (W.setCell ⟨b, 4, none⟩ (.int .i64 (m : Int))) sv wv mb := h.store (by simp [cells, Bl.arm]; omega) rfl rfl
  have st := h.step 4 (.int .i64 (m : Int))
  have H4 := Lib.hid h4
  clear h4 h
  go_enter Try.func22, Try.ntmps22
  go_wp2_with fail
  go_end0
  exact ⟨⟨_, rfl⟩, S, ⟨sv, wv, mb, H4.out⟩, st⟩

set_option maxRecDepth 100000 in
set_option maxHeartbeats 1000000 in
theorem up_any (h : Rows B0 b S σ W sv wv mb) :
    Calls Try.prog 20 #[.pointer (some ⟨b, 0, none⟩)] W fun e w' => e = .returned (.bool (!σ.down)) ∧ W = w' := by
  have c3 := h.obj.cell 3
  simp [cells] at c3
  clear h
  go_enter Try.func20, Try.ntmps20
  go_wp2_with fail
  go_ret
  exact ⟨rfl, rfl⟩

set_option maxRecDepth 100000 in
set_option maxHeartbeats 1000000 in
theorem blocks_any (h : Rows B0 b S σ W sv wv mb) :
    Calls Try.prog 24 #[.pointer (some ⟨b, 0, none⟩)] W fun e w' => e = .returned (.int .i64 (σ.safe.length : Int)) ∧ W = w' := by
  obtain ⟨ao, cap, rfl, _⟩ := Sq.row_cases h.safe
  have c0 := h.obj.cell 0
  simp [cells] at c0
  clear h
  go_enter Try.func24, Try.ntmps24
  go_wp2_with fail
  go_ret
  exact ⟨rfl, rfl⟩

set_option maxRecDepth 100000 in
set_option maxHeartbeats 1000000 in
theorem acts_any (h : Rows B0 b S σ W sv wv mb) :
    Calls Try.prog 23 #[.pointer (some ⟨b, 0, none⟩)] W fun e w' => e = .returned (.int .i64 (σ.acts : Int)) ∧ W = w' := by
  have c5 := h.obj.cell 5
  simp [cells] at c5
  clear h
  go_enter Try.func23, Try.ntmps23
  go_wp2_with fail
  go_ret
  exact ⟨rfl, rfl⟩

set_option maxRecDepth 100000 in
set_option maxHeartbeats 1000000 in
theorem epoch_any (h : Rows B0 b S σ W sv wv mb) :
    Calls Try.prog 25 #[.pointer (some ⟨b, 0, none⟩)] W fun e w' => e = .returned (.int .i64 (σ.epochs : Int)) ∧ W = w' := by
  have c6 := h.obj.cell 6
  simp [cells] at c6
  clear h
  go_enter Try.func25, Try.ntmps25
  go_wp2_with fail
  go_ret
  exact ⟨rfl, rfl⟩

theorem same (h : Rows B0 b S σ W sv wv mb) (hw : W = W') : ∃ S', At B0 b S' σ W' ∧ Sq.Step S S' W W' := by
  subst hw; exact ⟨S, ⟨sv, wv, mb, h⟩, Sq.Step.refl _ _⟩
/-- THE PROGRAM's DISK OWES WHAT IT SHOULD. -/
theorem ok : DevOk At where
  kept := fun h hk => kept h hk
  lo := fun h => lo h
  new := fun n W h1 h2 => new_any n W h1 h2
  newBad := fun n W h1 h2 h => newBad_any n W h1 h2 h
  read := fun ⟨sv, wv, mb, h⟩ hb i hi => (read_any h hb.wait hb.ok i hi).mono fun e w' ⟨he, hw⟩ => ⟨he, _, ⟨sv, wv, mb, h.kept (Sq.Kept.of_below hw)⟩, Sq.Step.below hw⟩
  write := fun ⟨sv, wv, mb, h⟩ hb i s hi hs => write_any h hb.wait hb.ok hb.acts i s hi hs
  sync := fun ⟨sv, wv, mb, h⟩ hb => sync_any h hb.wait hb.ok hb.acts
  arm := fun ⟨sv, wv, mb, h⟩ hb n hn => arm_any h n hn
  crash := fun ⟨sv, wv, mb, h⟩ hb kv keep torn bytes hkeep hkl ht hbt => crash_any h hb.wait hb.ok hb.epochs kv keep torn bytes hkeep hkl ht hbt
  up := fun ⟨sv, wv, mb, h⟩ hb => (up_any h).mono fun e w' ⟨he, hw⟩ => ⟨he, same h hw⟩
  blocks := fun ⟨sv, wv, mb, h⟩ hb => (blocks_any h).mono fun e w' ⟨he, hw⟩ => ⟨he, same h hw⟩
  acts := fun ⟨sv, wv, mb, h⟩ hb => (acts_any h).mono fun e w' ⟨he, hw⟩ => ⟨he, same h hw⟩
  epoch := fun ⟨sv, wv, mb, h⟩ hb => (epoch_any h).mono fun e w' ⟨he, hw⟩ => ⟨he, same h hw⟩
  pending := fun ⟨sv, wv, mb, h⟩ hb => (pending_any h hb.wait hb.ok).mono fun e w' ⟨v, he, hr, hw⟩ => ⟨v, _, he, ⟨sv, wv, mb, h.kept (Sq.Kept.of_below hw)⟩, Sq.Step.below hw, hr, fun g hg hs => by have := (h.lo g hs).2; have := (Ob.row_lt hr hg).1; omega⟩

/-! ### a disk that is nil -/
set_option maxRecDepth 100000 in
set_option maxHeartbeats 1000000 in
theorem outage_nil (W : World) : Calls Try.prog 38 #[.pointer none] W fun e w' => e = .returned (.int .i64 1) ∧ W = w' := by
  go_enter Try.func38, Try.ntmps38
  go_wp2_with fail
  go_ret
  exact ⟨rfl, rfl⟩
set_option maxRecDepth 100000 in
set_option maxHeartbeats 1000000 in
theorem refusal_nil (i : Int) (W : World) : Calls Try.prog 33 #[.pointer none, .int .i64 i] W fun e w' => e = .returned (.int .i64 1) ∧ W = w' := by
  go_enter Try.func33, Try.ntmps33
  go_wp2_with (go_at_call 38; refine (outage_nil _).mono ?_; rintro e w' ⟨rfl, rfl⟩)
  go_ret
  exact ⟨rfl, rfl⟩
set_option maxRecDepth 100000 in
set_option maxHeartbeats 4000000 in
theorem nil : NilOk where
  read := fun W i hi => by
    go_enter Try.func14, Try.ntmps14
    go_wp2_with (go_at_call 33; refine (refusal_nil _ _).mono ?_; rintro e w' ⟨rfl, rfl⟩)
    go_ret2
    exact ⟨⟨_, rfl⟩, Below.refl _ _⟩
  write := fun W i s hi => by
    go_enter Try.func16, Try.ntmps16
    go_wp2_with (go_at_call 33; refine (refusal_nil _ _).mono ?_; rintro e w' ⟨rfl, rfl⟩)
    go_ret
    exact ⟨rfl, Below.refl _ _⟩
  sync := fun W => by
    go_enter Try.func18, Try.ntmps18
    go_wp2_with (go_at_call 38; refine (outage_nil _).mono ?_; rintro e w' ⟨rfl, rfl⟩)
    go_ret
    exact ⟨rfl, Below.refl _ _⟩
  arm := fun W n hn => by
    go_enter Try.func22, Try.ntmps22
    go_wp2_with fail
    refine bodyPost_ret (results_none rfl _ _ _) rfl ?_
    exact ⟨⟨_, rfl⟩, Below.refl _ _⟩
  crash := fun W torn bytes ht hb => by
    go_enter Try.func12, Try.ntmps12
    go_wp2_with fail
    go_step3
    go_wp2_with fail
    first | rw [Exit.noGoto_ret] | rw [Exit.noGoto_normal]
    refine bodyPost_ret (results_none rfl _ _ _) rfl ?_
    exact ⟨⟨_, rfl⟩, Below.refl _ _⟩
  up := fun W => by
    go_enter Try.func20, Try.ntmps20
    go_wp2_with fail
    go_ret
    exact ⟨rfl, Below.refl _ _⟩
  blocks := fun W => by
    go_enter Try.func24, Try.ntmps24
    go_wp2_with fail
    go_ret
    exact ⟨rfl, Below.refl _ _⟩
  acts := fun W => by
    go_enter Try.func23, Try.ntmps23
    go_wp2_with fail
    go_ret
    exact ⟨rfl, Below.refl _ _⟩
  epoch := fun W => by
    go_enter Try.func25, Try.ntmps25
    go_wp2_with fail
    go_ret
    exact ⟨rfl, Below.refl _ _⟩
  pending := fun W => by
    go_enter Try.func21, Try.ntmps21
    go_wp2_with fail
    go_ret
    exact ⟨⟨_, _, rfl⟩, Below.refl _ _⟩
end Bd
end Go.Proofs.Ytdidcopfkjnkdaa
