/-
  The program's names of manifests and tables; the law ManifestNames.
-/
import Derived.Test.YteckjhhbljoklaaDoorWalDevO
import Derived.Test.YteckjhhbljoklaaDoorManNamesLaw
namespace Go.Proofs.YteckjhhbljoklaaDoor
open Go.RowKit
set_option linter.unusedSimpArgs false
set_option linter.unusedVariables false
namespace Md10
open Mf (manB tabB lit_man lit_tab)
open Wa (numOf hexs hexs_len numV logB Laid)
theorem numOf_cut {a l : List UInt8} (h : l.take a.length = a) : numOf a l = numOf logB (logB ++ l.drop a.length) := by
  have hal : a.length ≤ l.length := by
    have := congrArg List.length h
    rw [List.length_take] at this
    omega
  unfold Wa.numOf
  have h4 : logB.length = 4 := rfl
  by_cases h1 : l.length = a.length + 16
  · rw [if_pos ⟨h1, h⟩, if_pos ⟨by rw [List.length_append, List.length_drop]; omega, List.take_left' rfl⟩, List.drop_left' rfl]
  · rw [if_neg (fun x => h1 x.1), if_neg (fun x => h1 (by have := x.1; rw [List.length_append, List.length_drop] at this; omega))]
theorem numOf_not {a l : List UInt8} (h : ¬ l.take a.length = a) : numOf a l = none := by
  unfold Wa.numOf
  rw [if_neg (fun x => h x.2)]
theorem ext_take (l : List UInt8) (k : Nat) : (Cd.bs l).extract 0 k = Cd.bs (l.take k) := by
  have : ((Cd.bs l).extract 0 k).data.toList = l.take k := by
    rw [Lib.extract_data]; simp
  rw [← this]
theorem ext_drop10 (l : List UInt8) (k : Nat) : (Cd.bs l).extract k l.length = Cd.bs (l.drop k) := by
  have : ((Cd.bs l).extract k l.length).data.toList = l.drop k := by
    rw [Lib.extract_data]; exact List.take_of_length_le (by simp)
  rw [← this]

set_option maxRecDepth 100000 in
set_option maxHeartbeats 2000000 in
theorem hasPre_any (a l : List UInt8) (w : World) :
    Calls Tryd.prog 57 #[.string (Cd.bs l), .string (Cd.bs a)] w fun e w' => e = .returned (.bool (decide (l.take a.length = a))) ∧ w = w' := by
  have hsl : (Cd.bs l).size = l.length := rfl
  have hsa : (Cd.bs a).size = a.length := rfl
  have hx := ext_take l a.length
  have hl1 : (Cd.bs (l.take a.length)).toList = l.take a.length := by rw [ByteArray.toList_mk]
  have hl2 : (Cd.bs a).toList = a := by rw [ByteArray.toList_mk]
  by_cases h1 : a.length ≤ l.length
  · have h1i : (a.length : Int) ≤ (l.length : Int) := by omega
    have hi : (0 : Int) ≤ 0 ∧ (0 : Int) ≤ (a.length : Int) ∧ (a.length : Int) ≤ (l.length : Int) := by omega
    by_cases h2 : l.take a.length = a
    · have h2b : (l.take a.length == a) = true := by simpa using h2
      have HE := Lib.hid (decide_eq_true h2)
      clear h2
      go_enter Tryd.func57, Tryd.ntmps57
      go_wp2_with fail
      go_ret
      rw [HE.out]
      exact ⟨by simp_all, rfl⟩
    · have h2b : (l.take a.length == a) = false := by simpa using h2
      have HE := Lib.hid (decide_eq_false h2)
      clear h2
      go_enter Tryd.func57, Tryd.ntmps57
      go_wp2_with fail
      go_ret
      rw [HE.out]
      exact ⟨by simp_all, rfl⟩
  · have h1i : ¬ (a.length : Int) ≤ (l.length : Int) := by omega
    have HE := Lib.hid (decide_eq_false (fun h : l.take a.length = a => h1 (by have := congrArg List.length h; rw [List.length_take] at this; omega)))
    clear h1
    go_enter Tryd.func57, Tryd.ntmps57
    go_wp2_with fail
    go_ret
    rw [HE.out]
    exact ⟨by simp_all, rfl⟩

set_option maxRecDepth 100000 in
set_option maxHeartbeats 2000000 in
theorem cutHit_any (a l : List UInt8) (w : World) (h : l.take a.length = a) :
    Calls Tryd.prog 32 #[.string (Cd.bs l), .string (Cd.bs a)] w fun e w' => e = .returned (.tuple #[.string (Cd.bs (l.drop a.length)), .bool true]) ∧ w = w' := by
  have HP := Lib.hid (fun W => show Calls Tryd.prog 57 #[.string (Cd.bs l), .string (Cd.bs a)] W fun e w' => e = .returned (.bool true) ∧ W = w' from by have := hasPre_any a l W; rwa [decide_eq_true h] at this)
  have hsl : (Cd.bs l).size = l.length := rfl
  have hsa : (Cd.bs a).size = a.length := rfl
  have hx := ext_drop10 l a.length
  have hi : (0 : Int) ≤ (a.length : Int) ∧ (a.length : Int) ≤ (l.length : Int) := by
    have := congrArg List.length h
    rw [List.length_take] at this
    omega
  have HC : Hid (∀ W, Calls Tryd.prog 43 #[.string (Cd.bs l), .string (Cd.bs a)] W fun e w' => e = .returned (.tuple #[.string (Cd.bs (l.drop a.length)), .bool true]) ∧ W = w') := fun W => by
    clear h
    go_enter Tryd.func43, Tryd.ntmps43
    go_wp2_with (go_at_call 57; (with_reducible refine (HP.out _).mono ?_); rintro e w1 ⟨rfl, rfl⟩)
    go_ret2
    exact ⟨by rw [← hx]; rfl, rfl⟩
  clear h hi
  go_enter Tryd.func32, Tryd.ntmps32
  go_wp2_with (go_at_call 43; (with_reducible refine (HC.out _).mono ?_); rintro e w1 ⟨rfl, rfl⟩)
  go_ret2
  exact ⟨rfl, rfl⟩

set_option maxRecDepth 100000 in
set_option maxHeartbeats 2000000 in
theorem cutMiss_any (a l : List UInt8) (w : World) (h : ¬ l.take a.length = a) :
    Calls Tryd.prog 32 #[.string (Cd.bs l), .string (Cd.bs a)] w fun e w' => e = .returned (.tuple #[.string (Cd.bs l), .bool false]) ∧ w = w' := by
  have HP := Lib.hid (fun W => show Calls Tryd.prog 57 #[.string (Cd.bs l), .string (Cd.bs a)] W fun e w' => e = .returned (.bool false) ∧ W = w' from by have := hasPre_any a l W; rwa [decide_eq_false h] at this)
  have HC : Hid (∀ W, Calls Tryd.prog 43 #[.string (Cd.bs l), .string (Cd.bs a)] W fun e w' => e = .returned (.tuple #[.string (Cd.bs l), .bool false]) ∧ W = w') := fun W => by
    clear h
    go_enter Tryd.func43, Tryd.ntmps43
    go_wp2_with (go_at_call 57; (with_reducible refine (HP.out _).mono ?_); rintro e w1 ⟨rfl, rfl⟩)
    go_ret2
    exact ⟨rfl, rfl⟩
  clear h
  go_enter Tryd.func32, Tryd.ntmps32
  go_wp2_with (go_at_call 43; (with_reducible refine (HC.out _).mono ?_); rintro e w1 ⟨rfl, rfl⟩)
  go_ret2
  exact ⟨rfl, rfl⟩

set_option maxRecDepth 100000 in
set_option maxHeartbeats 2000000 in
theorem digits_any (n : Nat) (w : World) (hn : n < 18446744073709551616) (hL : Laid w) :
    Calls Tryd.prog 17 #[.int .u64 (n : Int)] w fun e w' => e = .returned (.string (Cd.bs (hexs 16 n))) ∧ Below w.heap.size w w' := by
  have HN := Lib.hid (Wd.nameOk n w hn hL)
  have ht : Lib.trimPrefix (Wa.name n) logB = hexs 16 n := Wd.trim_name (by unfold Wa.name; exact List.take_left' rfl)
  have HT := Lib.hid (fun W => show Calls Tryd.prog 30 #[.string (Cd.bs (Wa.name n)), .string ⟨#[108, 111, 103, 45]⟩] W fun e w' => e = .returned (.string (Cd.bs (hexs 16 n))) ∧ w' = W from by rw [← ht]; exact Tryd.strings_TrimPrefix (Cd.bs (Wa.name n)) ⟨#[108, 111, 103, 45]⟩ W)
  clear ht
  generalize Wa.name n = nm at *
  generalize hexs 16 n = D at *
  go_enter Tryd.func17, Tryd.ntmps17
  go_wp2_with (first
    | (go_at_call 31; (with_reducible refine HN.out.mono ?_); rintro e w1 ⟨rfl, hb1⟩)
    | (go_at_call 30; (with_reducible refine (HT.out _).mono ?_); rintro e w2 ⟨rfl, rfl⟩))
  go_ret
  exact ⟨rfl, hb1⟩

set_option maxRecDepth 100000 in
set_option maxHeartbeats 2000000 in
theorem name_any : Mf.NameOk Laid := by
  intro n w hn hL
  have HD := Lib.hid (digits_any n w hn hL)
  have hlen : (hexs 16 n).length = 16 := hexs_len 16 n
  have HNM := Lib.hid (show Cd.bs (manB ++ hexs 16 n) = ({ data := #[109, 97, 110, 105, 102, 101, 115, 116, 45] } : ByteArray) ++ Cd.bs (hexs 16 n) by rw [← lit_man, ByteArray.mk_append_mk])
  generalize hexs 16 n = D at *
  go_enter Tryd.func5, Tryd.ntmps5
  go_wp2_with (go_at_call 17; (with_reducible refine HD.out.mono ?_); rintro e w1 ⟨rfl, hb1⟩)
  go_ret
  exact ⟨by rw [HNM.out]; rfl, hb1⟩

set_option maxRecDepth 100000 in
set_option maxHeartbeats 2000000 in
theorem table_any : Mf.TableOk Laid := by
  intro n w hn hL
  have HD := Lib.hid (digits_any n w hn hL)
  have hlen : (hexs 16 n).length = 16 := hexs_len 16 n
  have HNM := Lib.hid (show Cd.bs (tabB ++ hexs 16 n) = ({ data := #[116, 97, 98, 108, 101, 45] } : ByteArray) ++ Cd.bs (hexs 16 n) by rw [← lit_tab, ByteArray.mk_append_mk])
  generalize hexs 16 n = D at *
  go_enter Tryd.func6, Tryd.ntmps6
  go_wp2_with (go_at_call 17; (with_reducible refine HD.out.mono ?_); rintro e w1 ⟨rfl, hb1⟩)
  go_ret
  exact ⟨by rw [HNM.out]; rfl, hb1⟩

set_option maxRecDepth 100000 in
set_option maxHeartbeats 4000000 in
theorem numberBehind_any (a l : List UInt8) (w : World) (ha : 4 ≤ a.length) (hl : l.length ≤ 140737488351232) (hL : Laid w) :
    Calls Tryd.prog 18 #[.string (Cd.bs a), .string (Cd.bs l)] w fun e w' => e = .returned (numV (numOf a l)) ∧ Below w.heap.size w w' := by
  by_cases hp : l.take a.length = a
  · have HC := Lib.hid (fun W => cutHit_any a l W hp)
    have hno := numOf_cut hp
    rw [hno]
    have hdl : (l.drop a.length).length + 4 ≤ l.length := by
      have := congrArg List.length hp
      rw [List.length_take] at this
      rw [List.length_drop]; omega
    have HM := Lib.hid (show Calls Tryd.prog 33 #[.string (Cd.bs (logB ++ l.drop a.length))] w fun e w' => e = .returned (numV (numOf logB (logB ++ l.drop a.length))) ∧ Below w.heap.size w w' from Wd.numberOk _ w (by rw [List.length_append]; show 4 + _ ≤ _; omega) hL)
    have HLT := Lib.hid (show Cd.bs (logB ++ l.drop a.length) = ({ data := #[108, 111, 103, 45] } : ByteArray) ++ Cd.bs (l.drop a.length) from by rw [← Wa.lit_log, ByteArray.mk_append_mk])
    obtain ⟨p, ok, hv⟩ := Mf.numV_form (numOf logB (logB ++ l.drop a.length))
    rw [hv] at HM ⊢
    clear hno hp hv
    generalize l.drop a.length = D at *
    rw [HLT.out] at HM
    go_enter Tryd.func18, Tryd.ntmps18
    go_wp2_with (first
      | (go_at_call 32; (with_reducible refine (HC.out _).mono ?_); rintro e w1 ⟨rfl, rfl⟩)
      | (go_at_call 33; (with_reducible refine HM.out.mono ?_); rintro e w2 ⟨rfl, hb2⟩))
    go_ret2
    exact ⟨rfl, hb2⟩
  · have HC := Lib.hid (fun W => cutMiss_any a l W hp)
    rw [numOf_not hp]
    clear hp
    go_enter Tryd.func18, Tryd.ntmps18
    go_wp2_with (go_at_call 32; (with_reducible refine (HC.out _).mono ?_); rintro e w1 ⟨rfl, rfl⟩)
    go_ret2
    exact ⟨rfl, Below.refl _ _⟩

set_option maxRecDepth 100000 in
set_option maxHeartbeats 2000000 in
theorem number_any : Mf.NumberOk Laid := by
  intro l w hl hL
  have HB := Lib.hid (show Calls Tryd.prog 18 #[.string { data := #[109, 97, 110, 105, 102, 101, 115, 116, 45] }, .string (Cd.bs l)] w fun e w' => e = .returned (numV (numOf manB l)) ∧ Below w.heap.size w w' from numberBehind_any manB l w (by decide) hl hL)
  obtain ⟨p, ok, hv⟩ := Mf.numV_form (numOf manB l)
  rw [hv] at HB ⊢
  clear hv
  go_enter Tryd.func7, Tryd.ntmps7
  go_wp2_with (go_at_call 18; (with_reducible refine HB.out.mono ?_); rintro e w1 ⟨rfl, hb1⟩)
  go_ret2
  exact ⟨rfl, hb1⟩

set_option maxRecDepth 100000 in
set_option maxHeartbeats 2000000 in
theorem tableNumber_any : Mf.TableNumberOk Laid := by
  intro l w hl hL
  have HB := Lib.hid (show Calls Tryd.prog 18 #[.string { data := #[116, 97, 98, 108, 101, 45] }, .string (Cd.bs l)] w fun e w' => e = .returned (numV (numOf tabB l)) ∧ Below w.heap.size w w' from numberBehind_any tabB l w (by decide) hl hL)
  obtain ⟨p, ok, hv⟩ := Mf.numV_form (numOf tabB l)
  rw [hv] at HB ⊢
  clear hv
  go_enter Tryd.func8, Tryd.ntmps8
  go_wp2_with (go_at_call 18; (with_reducible refine HB.out.mono ?_); rintro e w1 ⟨rfl, hb1⟩)
  go_ret2
  exact ⟨rfl, hb1⟩

theorem manifestNames_law (n : Int) (s : ByteArray) (w : World) (hL : Laid w) (n1 : 0 ≤ n) (n2 : n ≤ 18446744073709551615) (hs : s.size ≤ 140737488351232) :
    Calls Tryd.prog 3 #[.int .u64 n, .string s] w fun e w' => e = .returned (.bool true) ∧ Below w.heap.size w w' :=
  Mf.manifestNames_walk (Ld := Laid) (fun _ _ h hb => h.below hb) name_any table_any number_any tableNumber_any n s w hL n1 n2 hs
end Md10
end Go.Proofs.YteckjhhbljoklaaDoor
