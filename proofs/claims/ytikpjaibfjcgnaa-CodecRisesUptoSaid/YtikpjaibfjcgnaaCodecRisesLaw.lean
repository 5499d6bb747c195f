/-
  The law CodecRises: keys as bytes stand in the order of what they are keys of.
-/
import Derived.Test.YtikpjaibfjcgnaaCodecBackLaw
namespace Go.Proofs.Ytikpjaibfjcgnaa
open Go.RowKit
set_option linter.unusedSimpArgs false
set_option linter.unusedVariables false

theorem app_less (a b c d : List UInt8) : Op.bytesLess (Cd.bs a ++ Cd.bs b).toList (Cd.bs c ++ Cd.bs d).toList = Op.bytesLess (a ++ b) (c ++ d) := by
  rw [ByteArray.mk_append_mk, ByteArray.mk_append_mk, ByteArray.toList_mk, ByteArray.toList_mk]

set_option maxRecDepth 100000 in
set_option maxHeartbeats 4000000 in
/-- for whatever the keys' bytes are, once it is known how they compare -/
theorem rises_core (N N' M M' : Int) (S R S' R' D D' E E' : List UInt8) (k : Nat) (w : World)
    (lD : D.length ≤ 8) (lD' : D'.length ≤ 8) (lE : E.length ≤ 2097200) (lE' : E'.length ≤ 2097200) (lR : R.length ≤ 1048576) (lR' : R'.length ≤ 1048576)
    (P1 : Hid (∀ W, Calls Try.prog 11 #[.int .i64 M] W fun e w' => e = .returned (.string (Cd.bs D)) ∧ Below W.heap.size W w'))
    (P2 : Hid (∀ W, Calls Try.prog 11 #[.int .i64 M'] W fun e w' => e = .returned (.string (Cd.bs D')) ∧ Below W.heap.size W w'))
    (P3 : Hid (∀ W, Calls Try.prog 12 #[.string (Cd.bs S)] W fun e w' => e = .returned (.string (Cd.bs E)) ∧ Below W.heap.size W w'))
    (P4 : Hid (∀ W, Calls Try.prog 12 #[.string (Cd.bs S')] W fun e w' => e = .returned (.string (Cd.bs E')) ∧ Below W.heap.size W w'))
    (P5 : Hid (∀ W, Calls Try.prog 32 #[.string (Cd.bs E), .string (Cd.bs E')] W fun e w' => e = .returned (.int .i64 k) ∧ Below W.heap.size W w'))
    (hM : (M = M' ∧ D = D') ∨ (((M == M') = false) ∧ Op.bytesLess (Cd.bs D ++ Cd.bs R).toList (Cd.bs D' ++ Cd.bs R').toList = decide (M < M')))
    (hS : (S = S' ∧ E = E') ∨ (((S == S') = false) ∧ Op.bytesLess (Cd.bs E ++ Cd.bs R).toList (Cd.bs E' ++ Cd.bs R').toList = Op.bytesLess S S' ∧ k < E.length ∧ k < E'.length)) :
    Calls Try.prog 6 #[.agg #[.int .u64 N, .int .i64 M, .string (Cd.bs S), .string (Cd.bs R)], .agg #[.int .u64 N', .int .i64 M', .string (Cd.bs S'), .string (Cd.bs R')]] w fun e w' => e = .returned (.bool true) ∧ Below w.heap.size w w' := by
  have bx := (Box4.new w (.int .u64 N) (.int .i64 M) (.string (Cd.bs S)) (.string (Cd.bs R)) 38 rfl rfl rfl rfl)
  have bx2 := bx.below ((Below.refl _ _).alloc (Nat.le_refl _) (.cells #[.int .u64 N', .int .i64 M', .string (Cd.bs S'), .string (Cd.bs R')] 38))
  have by2 := (Box4.new (w.alloc (.cells #[.int .u64 N, .int .i64 M, .string (Cd.bs S), .string (Cd.bs R)] 38)) (.int .u64 N') (.int .i64 M') (.string (Cd.bs S')) (.string (Cd.bs R')) 38 rfl rfl rfl rfl)
  have hW : Below w.heap.size w ((w.alloc (.cells #[.int .u64 N, .int .i64 M, .string (Cd.bs S), .string (Cd.bs R)] 38)).alloc (.cells #[.int .u64 N', .int .i64 M', .string (Cd.bs S'), .string (Cd.bs R')] 38)) := ((Below.refl _ _).alloc (Nat.le_refl _) _).alloc (by simp) _
  rw [World.size_alloc] at by2
  clear bx
  have tok1 : True := trivial
  have tok2 : True := trivial
  rcases hM with ⟨rfl, rfl⟩ | ⟨hMb, hMl⟩ <;> rcases hS with ⟨rfl, rfl⟩ | ⟨hSb, hSl, hk1, hk2⟩
  all_goals go_enter Try.func6, Try.ntmps6
  all_goals go_wp2_with (first
    | (go_at_call 11; have _t := tok1; clear tok1; refine (P1.out _).mono ?_; rintro e wa ⟨rfl, ha⟩; have bxa := bx2.below ha; have bya := by2.below ha; have ca1 := bxa.c1; have ca2 := bxa.c2; have ca3 := bxa.c3; have da1 := bya.c1; have da2 := bya.c2; have da3 := bya.c3)
    | (go_at_call 11; refine (P2.out _).mono ?_; rintro e wb ⟨rfl, hb⟩; have bxb := bxa.below hb; have byb := bya.below hb; have cb1 := bxb.c1; have cb2 := bxb.c2; have cb3 := bxb.c3; have db1 := byb.c1; have db2 := byb.c2; have db3 := byb.c3)
    | (go_at_call 12; have _t := tok2; clear tok2; refine (P3.out _).mono ?_; rintro e wc ⟨rfl, hc⟩; have bxc := bxb.below hc; have byc := byb.below hc; have cc1 := bxc.c1; have cc2 := bxc.c2; have cc3 := bxc.c3; have dc1 := byc.c1; have dc2 := byc.c2; have dc3 := byc.c3)
    | (go_at_call 12; refine (P4.out _).mono ?_; rintro e wd ⟨rfl, hd⟩; have bxd := bxc.below hd; have byd := byc.below hd; have cd1 := bxd.c1; have cd2 := bxd.c2; have cd3 := bxd.c3; have dd1 := byd.c1; have dd2 := byd.c2; have dd3 := byd.c3)
    | (go_at_call 32; refine (P5.out _).mono ?_; rintro e we ⟨rfl, he⟩; have bxe := bxd.below he; have bye := byd.below he; have ce1 := bxe.c1; have ce2 := bxe.c2; have ce3 := bxe.c3; have de1 := bye.c1; have de2 := bye.c2; have de3 := bye.c3))
  all_goals first
    | (exfalso; have hMM : M = M' := by assumption
       rw [hMM] at hMb; simp at hMb; done)
    | (go_ret; exact ⟨rfl, hW.trans ((Cd.chain (Cd.chain (Cd.chain (Cd.chain ha hb) hc) hd) he).mono hW.size)⟩)
    | (go_ret; exact ⟨rfl, hW.trans ((Cd.chain (Cd.chain (Cd.chain ha hb) hc) hd).mono hW.size)⟩)

theorem codecRises_walk (N M : Int) (s r : ByteArray) (N' M' : Int) (s' r' : ByteArray) (w : World) (h0 : 0 ≤ N) (h1 : N ≤ 18446744073709551615) (m0 : -9223372036854775808 ≤ M) (m1 : M ≤ 9223372036854775807) (hs : s.size ≤ 1048576) (hr : r.size ≤ 1048576)
    (h0' : 0 ≤ N') (h1' : N' ≤ 18446744073709551615) (m0' : -9223372036854775808 ≤ M') (m1' : M' ≤ 9223372036854775807) (hs' : s'.size ≤ 1048576) (hr' : r'.size ≤ 1048576) :
    Calls Try.prog 6 #[.agg #[.int .u64 N, .int .i64 M, .string s, .string r], .agg #[.int .u64 N', .int .i64 M', .string s', .string r']] w fun e w' => e = .returned (.bool true) ∧ Below w.heap.size w w' := by
  obtain ⟨S, rfl⟩ : ∃ l, s = Cd.bs l := ⟨s.data.toList, (Lib.mk_data s).symm⟩
  obtain ⟨R, rfl⟩ : ∃ l, r = Cd.bs l := ⟨r.data.toList, (Lib.mk_data r).symm⟩
  obtain ⟨S', rfl⟩ : ∃ l, s' = Cd.bs l := ⟨s'.data.toList, (Lib.mk_data s').symm⟩
  obtain ⟨R', rfl⟩ : ∃ l, r' = Cd.bs l := ⟨r'.data.toList, (Lib.mk_data r').symm⟩
  have key_len : ∀ l : List UInt8, l.length ≤ 1048576 → (Cd.keyT l).length ≤ 2097200 := fun l hl => by have := Cd.keyGo_len l; rw [Cd.keyT, List.length_append]; simp; omega
  have lE := key_len S hs
  have lE' := key_len S' hs'
  refine rises_core N N' M M' S R S' R' (Cd.big (Cd.turn M)) (Cd.big (Cd.turn M')) (Cd.keyT S) (Cd.keyT S') (Cd.common (Cd.keyT S) (Cd.keyT S')) w
    (by rw [Cd.big_len]; omega) (by rw [Cd.big_len]; omega) lE lE' hr hr'
    (Lib.hid fun W => keyIc_any M W m0 m1) (Lib.hid fun W => keyIc_any M' W m0' m1') (Lib.hid fun W => keyTc_any (Cd.bs S) W hs) (Lib.hid fun W => keyTc_any (Cd.bs S') W hs')
    (Lib.hid fun W => commonr_any (Cd.bs (Cd.keyT S)) (Cd.bs (Cd.keyT S')) W (by show (Cd.keyT S).length ≤ _; unfold maxLen; omega) (by show (Cd.keyT S').length ≤ _; unfold maxLen; omega)) ?_ ?_
  · by_cases h : M = M'
    · subst h; exact .inl ⟨rfl, rfl⟩
    · exact .inr ⟨by simpa using h, by rw [app_less]; exact Cd.big_rises M M' R R' m0 m1 m0' m1' h⟩
  · by_cases h : S = S'
    · subst h; exact .inl ⟨rfl, rfl⟩
    · have hk := Cd.key_rises R R' S S' h
      exact .inr ⟨by simpa using h, by rw [app_less]; exact hk.1, hk.2.1, hk.2.2⟩
end Go.Proofs.Ytikpjaibfjcgnaa
