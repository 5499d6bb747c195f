/-
  The document's answers on the names of manifests and tables (tapestryref10): Name, Table, Number, TableNumber.
-/
import Derived.Test.YteckjhhbljoklaaDoorWalNameR
namespace Go.Proofs.YteckjhhbljoklaaDoor
open Go.RowKit
set_option linter.unusedSimpArgs false
set_option linter.unusedVariables false
namespace Mf
open Wa (numOf hexs hexs_len digitsR_any numberedR_any numV)
def manB : List UInt8 := [109, 97, 110, 105, 102, 101, 115, 116, 45]
def tabB : List UInt8 := [116, 97, 98, 108, 101, 45]
theorem lit_man : (Cd.bs manB) = ({ data := #[109, 97, 110, 105, 102, 101, 115, 116, 45] } : ByteArray) := rfl
theorem lit_tab : (Cd.bs tabB) = ({ data := #[116, 97, 98, 108, 101, 45] } : ByteArray) := rfl
/-- a name says its number, whatever it begins with -/
theorem numOf_self (a : List UInt8) (n : Nat) (h : n < 18446744073709551616) : numOf a (a ++ hexs 16 n) = some n := by
  have h0 := Wa.numOf_name n h
  unfold numOf Wa.name at h0
  unfold numOf
  simp only [List.length_append, hexs_len, List.take_left', List.drop_left', true_and, and_self, if_true] at h0 ⊢
  simpa using h0
theorem numOf_cross (n : Nat) : numOf manB (tabB ++ hexs 16 n) = none := by
  unfold numOf
  rw [if_neg]
  rintro ⟨h, _⟩
  rw [List.length_append, hexs_len] at h
  exact absurd h (by decide)

set_option maxRecDepth 100000 in
set_option maxHeartbeats 2000000 in
theorem nameR10_any (n : Nat) (w : World) (hn : n < 18446744073709551616) :
    Calls Tryd.prog 11 #[.int .u64 (n : Int)] w fun e w' => e = .returned (.string (Cd.bs (manB ++ hexs 16 n))) ∧ Below w.heap.size w w' := by
  have hD := Lib.hid (fun W => digitsR_any n W hn)
  have hlen : (hexs 16 n).length = 16 := hexs_len 16 n
  have HNM := Lib.hid (show Cd.bs (manB ++ hexs 16 n) = ({ data := #[109, 97, 110, 105, 102, 101, 115, 116, 45] } : ByteArray) ++ Cd.bs (hexs 16 n) by rw [← lit_man, ByteArray.mk_append_mk])
  generalize hexs 16 n = D at *
  go_enter Tryd.func11, Tryd.ntmps11
  go_wp2_with (go_at_call 20; (with_reducible refine (hD.out _).mono ?_); rintro e w1 ⟨rfl, hb1⟩)
  go_ret
  exact ⟨by rw [HNM.out]; rfl, hb1⟩

set_option maxRecDepth 100000 in
set_option maxHeartbeats 2000000 in
theorem tableR10_any (n : Nat) (w : World) (hn : n < 18446744073709551616) :
    Calls Tryd.prog 12 #[.int .u64 (n : Int)] w fun e w' => e = .returned (.string (Cd.bs (tabB ++ hexs 16 n))) ∧ Below w.heap.size w w' := by
  have hD := Lib.hid (fun W => digitsR_any n W hn)
  have hlen : (hexs 16 n).length = 16 := hexs_len 16 n
  have HNM := Lib.hid (show Cd.bs (tabB ++ hexs 16 n) = ({ data := #[116, 97, 98, 108, 101, 45] } : ByteArray) ++ Cd.bs (hexs 16 n) by rw [← lit_tab, ByteArray.mk_append_mk])
  generalize hexs 16 n = D at *
  go_enter Tryd.func12, Tryd.ntmps12
  go_wp2_with (go_at_call 20; (with_reducible refine (hD.out _).mono ?_); rintro e w1 ⟨rfl, hb1⟩)
  go_ret
  exact ⟨by rw [HNM.out]; rfl, hb1⟩

set_option maxRecDepth 100000 in
set_option maxHeartbeats 2000000 in
theorem numberR10_any (l : List UInt8) (w : World) (hl : l.length ≤ 140737488351232) :
    Calls Tryd.prog 9 #[.string (Cd.bs l)] w fun e w' => e = .returned (numV (numOf manB l)) ∧ w' = w := by
  cases hx : numOf manB l with
  | none =>
    have hN := Lib.hid (show ∀ W, Calls Tryd.prog 19 #[.string (Cd.bs l), .string { data := #[109, 97, 110, 105, 102, 101, 115, 116, 45] }] W fun e w' => e = .returned (.tuple #[.int .u64 0, .bool false]) ∧ w' = W from fun W => by have := numberedR_any l manB W hl (by decide); rw [hx] at this; exact this)
    clear hx
    go_enter Tryd.func9, Tryd.ntmps9
    go_wp2_with (go_at_call 19; (with_reducible refine (hN.out _).mono ?_); rintro e w1 ⟨rfl, rfl⟩)
    go_ret2
    exact ⟨rfl, rfl⟩
  | some n =>
    have hN := Lib.hid (show ∀ W, Calls Tryd.prog 19 #[.string (Cd.bs l), .string { data := #[109, 97, 110, 105, 102, 101, 115, 116, 45] }] W fun e w' => e = .returned (.tuple #[.int .u64 (n : Int), .bool true]) ∧ w' = W from fun W => by have := numberedR_any l manB W hl (by decide); rw [hx] at this; exact this)
    clear hx
    go_enter Tryd.func9, Tryd.ntmps9
    go_wp2_with (go_at_call 19; (with_reducible refine (hN.out _).mono ?_); rintro e w1 ⟨rfl, rfl⟩)
    go_ret2
    exact ⟨rfl, rfl⟩

set_option maxRecDepth 100000 in
set_option maxHeartbeats 2000000 in
theorem tableNumberR10_any (l : List UInt8) (w : World) (hl : l.length ≤ 140737488351232) :
    Calls Tryd.prog 10 #[.string (Cd.bs l)] w fun e w' => e = .returned (numV (numOf tabB l)) ∧ w' = w := by
  cases hx : numOf tabB l with
  | none =>
    have hN := Lib.hid (show ∀ W, Calls Tryd.prog 19 #[.string (Cd.bs l), .string { data := #[116, 97, 98, 108, 101, 45] }] W fun e w' => e = .returned (.tuple #[.int .u64 0, .bool false]) ∧ w' = W from fun W => by have := numberedR_any l tabB W hl (by decide); rw [hx] at this; exact this)
    clear hx
    go_enter Tryd.func10, Tryd.ntmps10
    go_wp2_with (go_at_call 19; (with_reducible refine (hN.out _).mono ?_); rintro e w1 ⟨rfl, rfl⟩)
    go_ret2
    exact ⟨rfl, rfl⟩
  | some n =>
    have hN := Lib.hid (show ∀ W, Calls Tryd.prog 19 #[.string (Cd.bs l), .string { data := #[116, 97, 98, 108, 101, 45] }] W fun e w' => e = .returned (.tuple #[.int .u64 (n : Int), .bool true]) ∧ w' = W from fun W => by have := numberedR_any l tabB W hl (by decide); rw [hx] at this; exact this)
    clear hx
    go_enter Tryd.func10, Tryd.ntmps10
    go_wp2_with (go_at_call 19; (with_reducible refine (hN.out _).mono ?_); rintro e w1 ⟨rfl, rfl⟩)
    go_ret2
    exact ⟨rfl, rfl⟩

end Mf
end Go.Proofs.YteckjhhbljoklaaDoor
