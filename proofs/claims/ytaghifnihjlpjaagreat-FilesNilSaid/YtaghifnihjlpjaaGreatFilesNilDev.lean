/-
  The program's file system where it is nil.
-/
import Derived.Test.YtaghifnihjlpjaaGreatFilesNil
import Derived.WalkLawsBesides
namespace Go.Proofs.YtaghifnihjlpjaaGreat
open Go.RowKit
set_option linter.unusedSimpArgs false
set_option linter.unusedVariables false
namespace Fd

set_option maxRecDepth 100000 in
set_option maxHeartbeats 1000000 in
theorem refusal_nil (W : World) : Calls Tryz.prog 67 #[.pointer none] W fun e w' => e = .returned (.int .i64 1) ∧ W = w' := by
  go_enter Tryz.func67, Tryz.ntmps67
  go_wp2_with fail
  go_ret
  exact ⟨rfl, rfl⟩

set_option maxRecDepth 100000 in
set_option maxHeartbeats 1000000 in
theorem find_nil (s : ByteArray) (W : World) : Calls Tryz.prog 71 #[.pointer none, .string s] W fun e w' => e = .returned (.tuple #[.pointer none, .int .i64 1]) ∧ W = w' := by
  go_enter Tryz.func71, Tryz.ntmps71
  go_wp2_with (go_at_call 67; refine (refusal_nil _).mono ?_; rintro e w' ⟨rfl, rfl⟩)
  go_ret2
  exact ⟨rfl, rfl⟩

set_option maxRecDepth 100000 in
set_option maxHeartbeats 4000000 in
theorem nilOk : FsNilOk where
  size := fun W s hs => by
    go_enter Tryz.func30, Tryz.ntmps30
    go_wp2_with (go_at_call 71; refine (find_nil _ _).mono ?_; rintro e w' ⟨rfl, rfl⟩)
    go_ret2
    exact ⟨⟨_, rfl⟩, Below.refl _ _⟩
  read := fun W s i n hs hi hn => by
    go_enter Tryz.func31, Tryz.ntmps31
    go_wp2_with (go_at_call 67; refine (refusal_nil _).mono ?_; rintro e w' ⟨rfl, rfl⟩)
    go_ret2
    exact ⟨⟨_, rfl⟩, Below.refl _ _⟩
  create := fun W s hs => by
    go_enter Tryz.func32, Tryz.ntmps32
    go_wp2_with (go_at_call 67; refine (refusal_nil _).mono ?_; rintro e w' ⟨rfl, rfl⟩)
    go_ret
    exact ⟨rfl, Below.refl _ _⟩
  append := fun W s t hs ht => by
    go_enter Tryz.func33, Tryz.ntmps33
    go_wp2_with (go_at_call 71; refine (find_nil _ _).mono ?_; rintro e w' ⟨rfl, rfl⟩)
    go_ret
    exact ⟨rfl, Below.refl _ _⟩
  rename := fun W s t hs ht => by
    go_enter Tryz.func34, Tryz.ntmps34
    go_wp2_with (go_at_call 67; refine (refusal_nil _).mono ?_; rintro e w' ⟨rfl, rfl⟩)
    go_ret
    exact ⟨rfl, Below.refl _ _⟩
  delete := fun W s hs => by
    go_enter Tryz.func35, Tryz.ntmps35
    go_wp2_with (go_at_call 71; refine (find_nil _ _).mono ?_; rintro e w' ⟨rfl, rfl⟩)
    go_ret
    exact ⟨rfl, Below.refl _ _⟩
  commit := fun W => by
    go_enter Tryz.func22, Tryz.ntmps22
    go_wp2_with (go_at_call 67; refine (refusal_nil _).mono ?_; rintro e w' ⟨rfl, rfl⟩)
    go_ret
    exact ⟨rfl, Below.refl _ _⟩
  revert := fun W => by
    go_enter Tryz.func25, Tryz.ntmps25
    go_wp2_with (go_at_call 67; refine (refusal_nil _).mono ?_; rintro e w' ⟨rfl, rfl⟩)
    refine bodyPost_ret (results_none rfl _ _ _) rfl ?_
    exact ⟨⟨_, rfl⟩, Below.refl _ _⟩
  names := fun W => by
    go_enter Tryz.func36, Tryz.ntmps36
    go_wp2_with (go_at_call 67; refine (refusal_nil _).mono ?_; rintro e w' ⟨rfl, rfl⟩)
    go_ret
    exact ⟨⟨_, _, rfl⟩, Below.refl _ _⟩
  free := fun W => by
    go_enter Tryz.func24, Tryz.ntmps24
    go_wp2_with (go_at_call 67; refine (refusal_nil _).mono ?_; rintro e w' ⟨rfl, rfl⟩)
    go_ret
    exact ⟨rfl, Below.refl _ _⟩
  root := fun W => by
    go_enter Tryz.func28, Tryz.ntmps28
    go_wp2_with (go_at_call 67; refine (refusal_nil _).mono ?_; rintro e w' ⟨rfl, rfl⟩)
    exact bodyPost_ret (v := .agg #[.int .u64 0, .slice none 0 0]) (by simp [results, Tryz.results28, go_sem]) rfl ⟨⟨_, _, rfl⟩, (Below.refl _ _).alloc (Nat.le_refl _) _⟩
  opens := fun W => by
    go_enter Tryz.func19, Tryz.ntmps19
    go_wp2_with fail
    go_ret2
    exact ⟨rfl, Below.refl _ _⟩
end Fd
end Go.Proofs.YtaghifnihjlpjaaGreat
