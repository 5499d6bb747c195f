/-
  What the program's names of manifests and tables owe (Ld: what the library's variables hold, if the program asks the library); the law ManifestNames over it.
-/
import Derived.Test.YteckjhhbljoklaaDoorManNameR
namespace Go.Proofs.YteckjhhbljoklaaDoor
open Go.RowKit
set_option linter.unusedSimpArgs false
set_option linter.unusedVariables false
namespace Mf
open Wa (numOf hexs hexs_len numV)
/-- what the library's variables hold stays -/
def Lasts (Ld : World → Prop) : Prop := ∀ W W', Ld W → Below W.heap.size W W' → Ld W'
def NameOk (Ld : World → Prop) : Prop := ∀ (n : Nat) (w : World), n < 18446744073709551616 → Ld w → Calls Tryd.prog 5 #[.int .u64 (n : Int)] w fun e w' => e = .returned (.string (Cd.bs (manB ++ hexs 16 n))) ∧ Below w.heap.size w w'
def TableOk (Ld : World → Prop) : Prop := ∀ (n : Nat) (w : World), n < 18446744073709551616 → Ld w → Calls Tryd.prog 6 #[.int .u64 (n : Int)] w fun e w' => e = .returned (.string (Cd.bs (tabB ++ hexs 16 n))) ∧ Below w.heap.size w w'
def NumberOk (Ld : World → Prop) : Prop := ∀ (l : List UInt8) (w : World), l.length ≤ 140737488351232 → Ld w → Calls Tryd.prog 7 #[.string (Cd.bs l)] w fun e w' => e = .returned (numV (numOf manB l)) ∧ Below w.heap.size w w'
def TableNumberOk (Ld : World → Prop) : Prop := ∀ (l : List UInt8) (w : World), l.length ≤ 140737488351232 → Ld w → Calls Tryd.prog 8 #[.string (Cd.bs l)] w fun e w' => e = .returned (numV (numOf tabB l)) ∧ Below w.heap.size w w'
theorem numV_form (r : Option Nat) : ∃ p ok, numV r = .tuple #[.int .u64 p, .bool ok] := by
  cases r
  · exact ⟨_, _, rfl⟩
  · exact ⟨_, _, rfl⟩

set_option maxRecDepth 100000 in
set_option maxHeartbeats 2000000 in
theorem manifestNames_walk {Ld : World → Prop} (LL : Lasts Ld) (N : NameOk Ld) (TN : TableOk Ld) (M : NumberOk Ld) (TM : TableNumberOk Ld) (n : Int) (s : ByteArray) (w : World) (hL : Ld w) (n1 : 0 ≤ n) (n2 : n ≤ 18446744073709551615) (hs : s.size ≤ 140737488351232) :
    Calls Tryd.prog 3 #[.int .u64 n, .string s] w fun e w' => e = .returned (.bool true) ∧ Below w.heap.size w w' := by
  obtain ⟨l, rfl⟩ : ∃ l, s = Cd.bs l := ⟨s.data.toList, (Lib.mk_data s).symm⟩
  obtain ⟨m, rfl⟩ := Int.eq_ofNat_of_zero_le n1
  have hm : m < 18446744073709551616 := by omega
  have HN := Lib.hid (fun W h => N m W hm h)
  have HT := Lib.hid (fun W h => TN m W hm h)
  have HNR := Lib.hid (fun W => nameR10_any m W hm)
  have HTR := Lib.hid (fun W => tableR10_any m W hm)
  have l1 : (manB ++ hexs 16 m).length ≤ 140737488351232 := by rw [List.length_append, hexs_len]; decide
  have l2 : (tabB ++ hexs 16 m).length ≤ 140737488351232 := by rw [List.length_append, hexs_len]; decide
  have HM1 := Lib.hid (fun W (h : Ld W) => show Calls Tryd.prog 7 #[.string (Cd.bs (manB ++ hexs 16 m))] W fun e w' => e = .returned (.tuple #[.int .u64 (m : Int), .bool true]) ∧ Below W.heap.size W w' from by
    have := M _ W l1 h
    rw [numOf_self _ m hm] at this
    exact this)
  have HM2 := Lib.hid (fun W (h : Ld W) => show Calls Tryd.prog 8 #[.string (Cd.bs (tabB ++ hexs 16 m))] W fun e w' => e = .returned (.tuple #[.int .u64 (m : Int), .bool true]) ∧ Below W.heap.size W w' from by
    have := TM _ W l2 h
    rw [numOf_self _ m hm] at this
    exact this)
  have HM3 := Lib.hid (fun W (h : Ld W) => show Calls Tryd.prog 7 #[.string (Cd.bs (tabB ++ hexs 16 m))] W fun e w' => e = .returned (.tuple #[.int .u64 0, .bool false]) ∧ Below W.heap.size W w' from by
    have := M _ W l2 h
    rw [numOf_cross m] at this
    exact this)
  have hsl : l.length ≤ 140737488351232 := hs
  obtain ⟨p, ok, hp⟩ := numV_form (numOf manB l)
  obtain ⟨q, fine, hq⟩ := numV_form (numOf tabB l)
  have HM4 := Lib.hid (fun W (h : Ld W) => show Calls Tryd.prog 7 #[.string (Cd.bs l)] W fun e w' => e = .returned (.tuple #[.int .u64 p, .bool ok]) ∧ Below W.heap.size W w' from by rw [← hp]; exact M l W hsl h)
  have HM5 := Lib.hid (fun W (h : Ld W) => show Calls Tryd.prog 8 #[.string (Cd.bs l)] W fun e w' => e = .returned (.tuple #[.int .u64 q, .bool fine]) ∧ Below W.heap.size W w' from by rw [← hq]; exact TM l W hsl h)
  have HR4 := Lib.hid (fun W => show Calls Tryd.prog 9 #[.string (Cd.bs l)] W fun e w' => e = .returned (.tuple #[.int .u64 p, .bool ok]) ∧ w' = W from by rw [← hp]; exact numberR10_any l W hsl)
  have HR5 := Lib.hid (fun W => show Calls Tryd.prog 10 #[.string (Cd.bs l)] W fun e w' => e = .returned (.tuple #[.int .u64 q, .bool fine]) ∧ w' = W from by rw [← hq]; exact tableNumberR10_any l W hsl)
  clear hp hq l1 l2
  generalize manB ++ hexs 16 m = nm at *
  generalize tabB ++ hexs 16 m = tm at *
  have HLL := Lib.hid (fun W W' (h1 : Ld W) (h2 : Below W.heap.size W W') => LL W W' h1 h2)
  clear LL
  go_enter Tryd.func3, Tryd.ntmps3
  go_wp2_with (first
    | (go_at_call 5; (with_reducible refine (HN.out _ hL).mono ?_); rintro e w1 ⟨rfl, b1⟩)
    | (go_at_call 6; (with_reducible refine (HT.out _ (HLL.out _ _ hL b1)).mono ?_); rintro e w2 ⟨rfl, hb2⟩; have b2 := b1.trans (hb2.mono b1.size); have _t1 := b2)
    | (go_at_call 7; (have _t := _t1); clear _t1; (with_reducible refine (HM1.out _ (HLL.out _ _ hL b2)).mono ?_); rintro e w3 ⟨rfl, hb3⟩; have b3 := b2.trans (hb3.mono b2.size); have _t2 := b3)
    | (go_at_call 8; (have _t := _t2); clear _t2; (with_reducible refine (HM2.out _ (HLL.out _ _ hL b3)).mono ?_); rintro e w4 ⟨rfl, hb4⟩; have b4 := b3.trans (hb4.mono b3.size); have _t3 := b4)
    | (go_at_call 7; (have _t := _t3); clear _t3; (with_reducible refine (HM3.out _ (HLL.out _ _ hL b4)).mono ?_); rintro e w5 ⟨rfl, hb5⟩; have b5 := b4.trans (hb5.mono b4.size))
    | (go_at_call 7; (with_reducible refine (HM4.out _ (HLL.out _ _ hL b5)).mono ?_); rintro e w6 ⟨rfl, hb6⟩; have b6 := b5.trans (hb6.mono b5.size))
    | (go_at_call 8; (with_reducible refine (HM5.out _ (HLL.out _ _ hL b6)).mono ?_); rintro e w7 ⟨rfl, hb7⟩; have b7 := b6.trans (hb7.mono b6.size))
    | (go_at_call 9; (with_reducible refine (HR4.out _).mono ?_); rintro e w8 ⟨rfl, rfl⟩)
    | (go_at_call 10; (with_reducible refine (HR5.out _).mono ?_); rintro e w8 ⟨rfl, rfl⟩)
    | (go_at_call 11; (with_reducible refine (HNR.out _).mono ?_); rintro e w9 ⟨rfl, hb9⟩; have b9 := b7.trans (hb9.mono b7.size))
    | (go_at_call 12; (with_reducible refine (HTR.out _).mono ?_); rintro e w10 ⟨rfl, hb10⟩; have b10 := b9.trans (hb10.mono b9.size)))
  go_ret
  exact ⟨rfl, b10⟩
end Mf
end Go.Proofs.YteckjhhbljoklaaDoor
