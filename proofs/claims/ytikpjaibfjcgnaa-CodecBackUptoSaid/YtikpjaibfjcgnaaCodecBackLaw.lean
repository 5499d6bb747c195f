/-
  The law CodecBack: what was written is read again, whatever stands behind it.
-/
import Derived.Test.YtikpjaibfjcgnaaCodecPutsLaw
import Derived.Test.YtikpjaibfjcgnaaCodecTakes
namespace Go.Proofs.Ytikpjaibfjcgnaa
open Go.RowKit
set_option linter.unusedSimpArgs false
set_option linter.unusedVariables false

/-- a struct of four fields in a block that the call itself laid -/
structure Box4 (w : World) (b : Nat) (v0 v1 v2 v3 : Value) : Prop where
  lt : b < w.heap.size
  c0 : w.cell? ⟨b, 0, none⟩ = some v0
  c1 : w.cell? ⟨b, 1, none⟩ = some v1
  c2 : w.cell? ⟨b, 2, none⟩ = some v2
  c3 : w.cell? ⟨b, 3, none⟩ = some v3
theorem Box4.below {W w : World} {b : Nat} {v0 v1 v2 v3 : Value} (h : Box4 W b v0 v1 v2 v3) (hb : Below W.heap.size W w) : Box4 w b v0 v1 v2 v3 :=
  ⟨Nat.lt_of_lt_of_le h.lt hb.size, (hb.cell (p := ⟨b, 0, none⟩) h.lt).trans h.c0, (hb.cell (p := ⟨b, 1, none⟩) h.lt).trans h.c1, (hb.cell (p := ⟨b, 2, none⟩) h.lt).trans h.c2, (hb.cell (p := ⟨b, 3, none⟩) h.lt).trans h.c3⟩
theorem Box4.new (w : World) (v0 v1 v2 v3 : Value) (T : TypeId) (h0 : v0.oneCell' = true) (h1 : v1.oneCell' = true) (h2 : v2.oneCell' = true) (h3 : v3.oneCell' = true) : Box4 (w.alloc (.cells #[v0, v1, v2, v3] T)) w.heap.size v0 v1 v2 v3 :=
  ⟨by simp, by go_simp, by go_simp, by go_simp, by go_simp⟩

theorem app_data (a b : List UInt8) : (Cd.bs a ++ Cd.bs b).data.toList = a ++ b := by
  rw [ByteArray.mk_append_mk]
theorem takeKI_big' (m : Int) (r : List UInt8) (h1 : -9223372036854775808 ≤ m) (h2 : m ≤ 9223372036854775807) : Cd.takeKI (Cd.big (Cd.turn m) ++ r) = (m, (Cd.big (Cd.turn m)).length, 0) := by
  rw [Cd.takeKI_big m r h1 h2, Cd.big_len]
theorem app_size (a b : List UInt8) : (Cd.bs a ++ Cd.bs b).size = a.length + b.length := by
  rw [ByteArray.size_append]; rfl

set_option maxRecDepth 100000 in
set_option maxHeartbeats 4000000 in
theorem codecBack_walk (N : Int) (M : Int) (s r : ByteArray) (w : World) (h0 : 0 ≤ N) (h1 : N ≤ 18446744073709551615) (m0 : -9223372036854775808 ≤ M) (m1 : M ≤ 9223372036854775807) (hs : s.size ≤ 1048576) (hr : r.size ≤ 1048576) :
    Calls Try.prog 5 #[.agg #[.int .u64 N, .int .i64 M, .string s, .string r]] w fun e w' => e = .returned (.bool true) ∧ Below w.heap.size w w' := by
  obtain ⟨n, rfl⟩ := Int.eq_ofNat_of_zero_le h0
  obtain ⟨S, rfl⟩ : ∃ l, s = Cd.bs l := ⟨s.data.toList, (Lib.mk_data s).symm⟩
  obtain ⟨R, rfl⟩ : ∃ l, r = Cd.bs l := ⟨r.data.toList, (Lib.mk_data r).symm⟩
  have hS : S.length ≤ 1048576 := hs
  have hR : R.length ≤ 1048576 := hr
  have hn : n < 18446744073709551616 := by omega
  have zl := Cd.zig_lt M m0 m1
  have lA := Cd.putU_len10 n hn
  have lB := Cd.putU_len10 (Cd.zig M) zl
  have lC : (Cd.putT S).length ≤ 1048600 := by have := Cd.putU_len10 S.length (by omega); rw [Cd.putT, List.length_append]; omega
  have lD := Cd.big_len (Cd.turn M)
  have lE : (Cd.keyT S).length ≤ 2097200 := by have := Cd.keyGo_len S; rw [Cd.keyT, List.length_append]; simp; omega
  have p1 := fun W => putUc_at (n : Int) n W rfl hn
  have p2 := fun W => putIc_any M W m0 m1
  have p3 := fun W => putTc_any (Cd.bs S) W hs
  have p4 := fun W => keyIc_any M W m0 m1
  have p5 := fun W => keyTc_any (Cd.bs S) W hs
  have t1 := fun W => takec_any (Cd.bs (Cd.putU n) ++ Cd.bs R) W (by rw [app_size]; unfold maxLen; omega)
  have t2 := fun W => takeIc_any (Cd.bs (Cd.putU (Cd.zig M)) ++ Cd.bs R) W (by rw [app_size]; unfold maxLen; omega)
  have t3 := fun W => takeTc_any (Cd.bs (Cd.putT S) ++ Cd.bs R) (S.length : Int) W (by rw [app_size]; omega) (by omega) (by omega)
  have t4 := fun W => takeKIc_any (Cd.bs (Cd.big (Cd.turn M)) ++ Cd.bs R) W (by rw [app_size]; unfold maxLen; omega)
  have t5 := fun W => takeKc_any (Cd.bs (Cd.keyT S) ++ Cd.bs R) W (by rw [app_size]; omega)
  simp only [app_data, Cd.takeU_putU n R hn] at t1
  simp only [app_data, Cd.takeU_putU (Cd.zig M) R zl, Cd.unzig_zig] at t2
  simp only [app_data, Cd.takeT_putT S R (by omega)] at t3
  simp only [app_data, takeKI_big' M R m0 m1] at t4
  simp only [app_data, Cd.takeK_keyT S R] at t5
  have P1 := Lib.hid p1
  have P2 := Lib.hid p2
  have P3 := Lib.hid p3
  have P4 := Lib.hid p4
  have P5 := Lib.hid p5
  have T1 := Lib.hid t1
  have T2 := Lib.hid t2
  have T3 := Lib.hid t3
  have T4 := Lib.hid t4
  have T5 := Lib.hid t5
  have L4 := Lib.hid lD
  have e3 : (Cd.bs S).data.toList = S := rfl
  rw [e3] at P3 P5
  clear p1 p2 p3 p4 p5 t1 t2 t3 t4 t5 e3
  generalize Cd.putU n = A at *
  generalize Cd.putU (Cd.zig M) = B at *
  generalize Cd.putT S = C at *
  generalize Cd.big (Cd.turn M) = D at *
  generalize Cd.keyT S = E at *
  have hd8 : D.length ≤ 8 := by omega
  clear lD zl hn
  have bx := Box4.new w (.int .u64 (n : Int)) (.int .i64 M) (.string (Cd.bs S)) (.string (Cd.bs R)) 38 rfl rfl rfl rfl
  have hW : Below w.heap.size w (w.alloc (.cells #[.int .u64 (n : Int), .int .i64 M, .string (Cd.bs S), .string (Cd.bs R)] 38)) := (Below.refl _ _).alloc (Nat.le_refl _) _
  go_enter Try.func5, Try.ntmps5
  go_wp2_with (first
    | (go_at_call 8; refine (P1.out _).mono ?_; rintro e wa ⟨rfl, ha⟩; have bxa := bx.below ha; have ca1 := bxa.c1; have ca2 := bxa.c2; have ca3 := bxa.c3)
    | (go_at_call 9; refine (P2.out _).mono ?_; rintro e wb ⟨rfl, hb⟩; have bxb := bxa.below hb; have cb2 := bxb.c2; have cb3 := bxb.c3)
    | (go_at_call 10; refine (P3.out _).mono ?_; rintro e wc ⟨rfl, hc⟩; have bxc := bxb.below hc; have cc0 := bxc.c0; have cc1 := bxc.c1; have cc2 := bxc.c2; have cc3 := bxc.c3)
    | (go_at_call 22; refine (T1.out _).mono ?_; rintro e w' ⟨rfl, rfl⟩)
    | (go_at_call 24; refine (T2.out _).mono ?_; rintro e w' ⟨rfl, rfl⟩)
    | (go_at_call 26; refine (T3.out _).mono ?_; rintro e wd ⟨rfl, hd⟩; have bxd := bxc.below hd; have cd1 := bxd.c1; have cd2 := bxd.c2; have cd3 := bxd.c3)
    | (go_at_call 11; refine (P4.out _).mono ?_; rintro e we ⟨rfl, he⟩; have bxe := bxd.below he; have ce2 := bxe.c2; have ce3 := bxe.c3)
    | (go_at_call 12; refine (P5.out _).mono ?_; rintro e wf ⟨rfl, hf⟩; have bxf := bxe.below hf; have cf1 := bxf.c1; have cf2 := bxf.c2; have cf3 := bxf.c3)
    | (go_at_call 28; refine (T4.out _).mono ?_; rintro e w' ⟨rfl, rfl⟩)
    | (go_at_call 30; refine (T5.out _).mono ?_; rintro e wg ⟨rfl, hg⟩; have bxg := bxf.below hg; have cg2 := bxg.c2))
  go_ret
  exact ⟨rfl, hW.trans ((Cd.chain (Cd.chain (Cd.chain (Cd.chain (Cd.chain (Cd.chain ha hb) hc) hd) he) hf) hg).mono hW.size)⟩
end Go.Proofs.Ytikpjaibfjcgnaa
