/-
  one: the other acts but Crash.
-/
import Derived.Test.YtdidcopfkjnkdaaBlockOne
namespace Go.Proofs.Ytdidcopfkjnkdaa
open Go.RowKit
set_option linter.unusedSimpArgs false
set_option linter.unusedVariables false
variable {DevAt : Nat → Nat → Sq.Blocks → Bl.St → World → Prop}

set_option maxRecDepth 100000 in
set_option maxHeartbeats 4000000 in
theorem one_1 (D : DevOk DevAt) {B0 bd br : Nat} {Sd Sr : Sq.Blocks} {σ : Bl.St} {W : World} (h : Two DevAt B0 bd br Sd Sr σ σ W) (hn : Bnd σ) (i n : Int) (hi : -9223372036854775808 ≤ i ∧ i ≤ 9223372036854775807) (hm : -9223372036854775808 ≤ n ∧ n ≤ 9223372036854775807) (a : Option Addr) (len cap : Nat) :
    Calls Try.prog 11 #[.pointer (some ⟨bd, 0, none⟩), .pointer (some ⟨br, 0, none⟩), actV 1 i n (.slice a len cap)] W (OneOut DevAt B0 bd br σ W) := by
  have hB0 := h.base
  have hRd : ∀ {W Sr}, RefAt B0 br Sr σ W → Calls Try.prog 29 #[.pointer (some ⟨br, 0, none⟩), .int .i64 i] W fun e w' => e = .returned (.tuple #[.string (Cd.bs (Bl.read σ i).1), .int .i64 (Bl.read σ i).2]) ∧ W = w' := fun {W Sr} ⟨sv, wv, hr⟩ => refRead_any hr i hi hn.wait hn.ok.blocks (fun x hx => (hn.ok.inW x hx).1)
  go_enter Try.func11, Try.ntmps11
  have T0 := h.kept D (Sq.Kept.alloc _ _ (.cells #[.int .i64 1, .int .i64 i, .int .i64 n, .slice a len cap] 33))
  have bx0 := Box4c.new W (.int .i64 1) (.int .i64 i) (.int .i64 n) (.slice a len cap) 33 B0
  have hd0 : ¬ Sd W.heap.size := fun hs => by have := (D.lo h.dev _ hs).2; omega
  have hr0 : ¬ Sr W.heap.size := fun hs => by have := (h.ref.lo _ hs).2; omega
  have b0 : Below B0 W (W.alloc (.cells #[.int .i64 1, .int .i64 i, .int .i64 n, .slice a len cap] 33)) := (Below.refl B0 W).alloc hB0 _
  go_wp2_with (first
    | (go_at_call 14; refine (D.read T0.dev hn i hi).mono ?_; rintro e w2 ⟨rfl, S2, hd2, st2⟩; obtain ⟨T2, B2⟩ := T0.stepD D hd2 st2; have bx2 := bx0.kept st2.kept hd0; have e2 := bx2.c1)
    | (go_at_call 29; refine (hRd T2.ref).mono ?_; rintro e w' ⟨rfl, rfl⟩))
  go_ret
  exact ⟨by simp, S2, Sr, σ, T2, b0.trans B2, Bl.Near.refl hn.ok⟩

set_option maxRecDepth 100000 in
set_option maxHeartbeats 4000000 in
theorem one_2 (D : DevOk DevAt) {B0 bd br : Nat} {Sd Sr : Sq.Blocks} {σ : Bl.St} {W : World} (h : Two DevAt B0 bd br Sd Sr σ σ W) (hn : Bnd σ) (i n : Int) (hi : -9223372036854775808 ≤ i ∧ i ≤ 9223372036854775807) (hm : -9223372036854775808 ≤ n ∧ n ≤ 9223372036854775807) (a : Option Addr) (len cap : Nat) :
    Calls Try.prog 11 #[.pointer (some ⟨bd, 0, none⟩), .pointer (some ⟨br, 0, none⟩), actV 2 i n (.slice a len cap)] W (OneOut DevAt B0 bd br σ W) := by
  have hB0 := h.base
  go_enter Try.func11, Try.ntmps11
  have T0 := h.kept D (Sq.Kept.alloc _ _ (.cells #[.int .i64 2, .int .i64 i, .int .i64 n, .slice a len cap] 33))
  have bx0 := Box4c.new W (.int .i64 2) (.int .i64 i) (.int .i64 n) (.slice a len cap) 33 B0
  have hd0 : ¬ Sd W.heap.size := fun hs => by have := (D.lo h.dev _ hs).2; omega
  have hr0 : ¬ Sr W.heap.size := fun hs => by have := (h.ref.lo _ hs).2; omega
  have b0 : Below B0 W (W.alloc (.cells #[.int .i64 2, .int .i64 i, .int .i64 n, .slice a len cap] 33)) := (Below.refl B0 W).alloc hB0 _
  go_wp2_with (first
    | (go_at_call 18; refine (D.sync T0.dev hn).mono ?_; rintro e w2 ⟨rfl, S2, hd2, st2⟩; obtain ⟨T2, B2⟩ := T0.stepD D hd2 st2)
    | (go_at_call 30; refine (refSync_any T2.ref hn.wait hn.ok.blocks (fun x hx => (hn.ok.inW x hx).1) hn.acts hn.ok.armed).mono ?_; rintro e w3 ⟨rfl, hr3, st3⟩; obtain ⟨T3, B3⟩ := T2.stepR D hr3 st3))
  go_ret
  exact ⟨by simp, S2, Sr, _, T3, (b0.trans B2).trans B3, Bl.Near.sync hn.ok⟩

set_option maxRecDepth 100000 in
set_option maxHeartbeats 4000000 in
theorem one_3 (D : DevOk DevAt) {B0 bd br : Nat} {Sd Sr : Sq.Blocks} {σ : Bl.St} {W : World} (h : Two DevAt B0 bd br Sd Sr σ σ W) (hn : Bnd σ) (i n : Int) (hi : -9223372036854775808 ≤ i ∧ i ≤ 9223372036854775807) (hm : -9223372036854775808 ≤ n ∧ n ≤ 9223372036854775807) (a : Option Addr) (len cap : Nat) :
    Calls Try.prog 11 #[.pointer (some ⟨bd, 0, none⟩), .pointer (some ⟨br, 0, none⟩), actV 3 i n (.slice a len cap)] W (OneOut DevAt B0 bd br σ W) := by
  have hB0 := h.base
  have hAr : ∀ {W Sr}, RefAt B0 br Sr σ W → Calls Try.prog 31 #[.pointer (some ⟨br, 0, none⟩), .int .i64 n] W fun e w' => (∃ v, e = .returned v) ∧ RefAt B0 br Sr (Bl.arm σ n) w' ∧ Sq.Step Sr Sr W w' := fun {W Sr} ⟨sv, wv, hr⟩ => (refArm_any hr n hm.1 hm.2).mono fun e w' ⟨h1, h2, h3⟩ => ⟨h1, ⟨sv, wv, h2⟩, h3⟩
  go_enter Try.func11, Try.ntmps11
  have T0 := h.kept D (Sq.Kept.alloc _ _ (.cells #[.int .i64 3, .int .i64 i, .int .i64 n, .slice a len cap] 33))
  have bx0 := Box4c.new W (.int .i64 3) (.int .i64 i) (.int .i64 n) (.slice a len cap) 33 B0
  have hd0 : ¬ Sd W.heap.size := fun hs => by have := (D.lo h.dev _ hs).2; omega
  have hr0 : ¬ Sr W.heap.size := fun hs => by have := (h.ref.lo _ hs).2; omega
  have b0 : Below B0 W (W.alloc (.cells #[.int .i64 3, .int .i64 i, .int .i64 n, .slice a len cap] 33)) := (Below.refl B0 W).alloc hB0 _
  go_wp2_with (first
    | (go_at_call 22; refine (D.arm T0.dev hn n hm).mono ?_; rintro e w2 ⟨⟨v2, rfl⟩, S2, hd2, st2⟩; obtain ⟨T2, B2⟩ := T0.stepD D hd2 st2; have bx2 := bx0.kept st2.kept hd0; have e2 := bx2.c2)
    | (go_at_call 31; refine (hAr T2.ref).mono ?_; rintro e w3 ⟨⟨v3, rfl⟩, hr3, st3⟩; obtain ⟨T3, B3⟩ := T2.stepR D hr3 st3))
  go_ret
  exact ⟨rfl, S2, Sr, _, T3, (b0.trans B2).trans B3, Bl.Near.arm hn.ok hm.2⟩

set_option maxRecDepth 100000 in
set_option maxHeartbeats 4000000 in
theorem one_5 (D : DevOk DevAt) {B0 bd br : Nat} {Sd Sr : Sq.Blocks} {σ : Bl.St} {W : World} (h : Two DevAt B0 bd br Sd Sr σ σ W) (hn : Bnd σ) (i n : Int) (hi : -9223372036854775808 ≤ i ∧ i ≤ 9223372036854775807) (hm : -9223372036854775808 ≤ n ∧ n ≤ 9223372036854775807) (a : Option Addr) (len cap : Nat) :
    Calls Try.prog 11 #[.pointer (some ⟨bd, 0, none⟩), .pointer (some ⟨br, 0, none⟩), actV 5 i n (.slice a len cap)] W (OneOut DevAt B0 bd br σ W) := by
  have hB0 := h.base
  go_enter Try.func11, Try.ntmps11
  have T0 := h.kept D (Sq.Kept.alloc _ _ (.cells #[.int .i64 5, .int .i64 i, .int .i64 n, .slice a len cap] 33))
  have bx0 := Box4c.new W (.int .i64 5) (.int .i64 i) (.int .i64 n) (.slice a len cap) 33 B0
  have hd0 : ¬ Sd W.heap.size := fun hs => by have := (D.lo h.dev _ hs).2; omega
  have hr0 : ¬ Sr W.heap.size := fun hs => by have := (h.ref.lo _ hs).2; omega
  have b0 : Below B0 W (W.alloc (.cells #[.int .i64 5, .int .i64 i, .int .i64 n, .slice a len cap] 33)) := (Below.refl B0 W).alloc hB0 _
  go_wp2_with (first
    | (go_at_call 15; refine (alike_any D T0 hn).mono ?_; rintro e w2 ⟨rfl, S2, S3, T3, B3⟩))
  go_ret
  exact ⟨rfl, S2, S3, σ, T3, b0.trans B3, Bl.Near.refl hn.ok⟩

set_option maxRecDepth 100000 in
set_option maxHeartbeats 4000000 in
theorem one_r (D : DevOk DevAt) {B0 bd br : Nat} {Sd Sr : Sq.Blocks} {σ : Bl.St} {W : World} (h : Two DevAt B0 bd br Sd Sr σ σ W) (hn : Bnd σ) (i n : Int) (hi : -9223372036854775808 ≤ i ∧ i ≤ 9223372036854775807) (hm : -9223372036854775808 ≤ n ∧ n ≤ 9223372036854775807) (a : Option Addr) (len cap : Nat) (kind : Int) (hkind : kind < 0 ∨ 5 < kind) :
    Calls Try.prog 11 #[.pointer (some ⟨bd, 0, none⟩), .pointer (some ⟨br, 0, none⟩), actV kind i n (.slice a len cap)] W (OneOut DevAt B0 bd br σ W) := by
  have hB0 := h.base
  have hk : ∀ j : Int, (j = 0 ∨ j = 1 ∨ j = 2 ∨ j = 3 ∨ j = 4 ∨ j = 5) → (kind == j) = false := fun j hj => by simp only [beq_eq_false_iff_ne, ne_eq]; omega
  have hk0 := hk 0 (by omega)
  have hk1 := hk 1 (by omega)
  have hk2 := hk 2 (by omega)
  have hk3 := hk 3 (by omega)
  have hk4 := hk 4 (by omega)
  have hk5 := hk 5 (by omega)
  clear hk hkind
  obtain ⟨m, hm6, hml⟩ : ∃ m : Nat, min (max n 0) 600 = (m : Int) ∧ m ≤ 600 := ⟨(min (max n 0) 600).toNat, by omega, by omega⟩
  have hF := Lib.hid fun W => filled_any n m W hm.1 hm.2 (by omega)
  go_enter Try.func11, Try.ntmps11
  have T0 := h.kept D (Sq.Kept.alloc _ _ (.cells #[.int .i64 kind, .int .i64 i, .int .i64 n, .slice a len cap] 33))
  have bx0 := Box4c.new W (.int .i64 kind) (.int .i64 i) (.int .i64 n) (.slice a len cap) 33 B0
  have hd0 : ¬ Sd W.heap.size := fun hs => by have := (D.lo h.dev _ hs).2; omega
  have hr0 : ¬ Sr W.heap.size := fun hs => by have := (h.ref.lo _ hs).2; omega
  have b0 : Below B0 W (W.alloc (.cells #[.int .i64 kind, .int .i64 i, .int .i64 n, .slice a len cap] 33)) := (Below.refl B0 W).alloc hB0 _
  go_wp2_with (first
    | (go_at_call 17; refine (hF.out _).mono ?_; rintro e w1 ⟨rfl, b1⟩; have T1 := T0.below D b1; have bx1 := bx0.kept (Sq.Kept.of_below (T := fun _ => True) b1) trivial; have e1 := bx1.c1)
    | (go_at_call 16; refine (D.write T1.dev hn i (fillD n m) hi (by rw [fillD_len]; omega)).mono ?_; rintro e w2 ⟨rfl, S2, hd2, st2⟩; obtain ⟨T2, B2⟩ := T1.stepD D hd2 st2; have bx2 := bx1.kept st2.kept hd0; have e2 := bx2.c1)
    | (go_at_call 28; refine (refWrite_any T2.ref i hi (fillD n m) (by rw [fillD_len]; omega) hn.wait hn.ok.blocks hn.acts hn.ok.armed).mono ?_; rintro e w3 ⟨rfl, S3, hr3, st3⟩; obtain ⟨T3, B3⟩ := T2.stepR D hr3 st3))
  go_ret
  exact ⟨by simp, S2, S3, _, T3, (((b0.trans (b1.mono T0.base)).trans B2).trans B3), Bl.Near.write hn.ok i _⟩
end Go.Proofs.Ytdidcopfkjnkdaa
