import Derived.Sort.LotC
import Derived.Sort.LotA
import Derived.Sort.LotB
import Derived.Sort.LotD3
import Derived.Test.YthcllaombabpbaaPart4
/-
  choosePivot over a row of uint64: only that the pivot lies within; nothing that lay is written to.
-/
namespace Go.Proofs.Ythcllaombabpbaa
open Go.RowKit Go.Sort
set_option linter.unusedSimpArgs false
set_option linter.unusedVariables false
namespace So6
/-- the row is as it was, a count lies in its box -/
structure Cn (b sb : Nat) (d : Array Int) (rest : List Value) (w W : World) : Prop where
  a : Ar W b d rest
  s : ∃ s : Int, Boxed W sb 3 (.int .i64 s)
  k : Sq.Kept (fun k => k ≠ sb) w W
theorem Cn.drewN {b sb : Nat} {d : Array Int} {rest : List Value} {w W : World} (h : Cn b sb d rest w W) (n : Nat) : Cn b sb d rest w (W.drewN n) := ⟨h.a, h.s, h.k.trans (Sq.Kept.drewN _ _ _)⟩

set_option maxRecDepth 100000 in
set_option maxHeartbeats 4000000 in
theorem order_any (b cap sb lo hi x y : Nat) (d : Array Int) (rest : List Value) (w0 w : World) (hC : Cn b sb d rest w0 w) (hsb : sb ≠ b) (h2 : hi ≤ d.size) (hx : lo ≤ x ∧ x < hi) (hy : lo ≤ y ∧ y < hi) :
    Calls Try.prog 103 #[.slice (some ⟨b, 0, none⟩) d.size cap, .int .i64 (x : Int), .int .i64 (y : Int), .pointer (some ⟨sb, 0, none⟩)] w fun e w' => ∃ p q : Nat, e = .returned (.tuple #[.int .i64 (p : Int), .int .i64 (q : Int)]) ∧ (lo ≤ p ∧ p < hi) ∧ (lo ≤ q ∧ q < hi) ∧ Cn b sb d rest w0 w' := by
  have hi0 : (0 : Int) ≤ (x : Int) ∧ (x : Int) < (d.size : Int) := cast_in (Nat.lt_of_lt_of_le hx.2 h2)
  have hi1 : (0 : Int) ≤ (y : Int) ∧ (y : Int) < (d.size : Int) := cast_in (Nat.lt_of_lt_of_le hy.2 h2)
  have c0 := hC.a.cell (j := x) (Nat.lt_of_lt_of_le hx.2 h2)
  have c1 := hC.a.cell (j := y) (Nat.lt_of_lt_of_le hy.2 h2)
  have HC := Lib.hid hC
  clear hC
  go_enter Try.func103, Try.ntmps103
  go_wp2_with fail
  go_big_quiet ((go_at_call 72; exact Calls.quiet_of_same (less_any _ _ _)))
  have HQ := Lib.hid (HC.out.drewN nq)
  clear c0 c1
  obtain ⟨s, hs⟩ := HQ.out.s
  have cs := hs.cell
  have fs := hs.frozen
  have HS := Lib.hid hs
  clear hs
  generalize w.drewN nq = wq at *
  cases hL : ltInt d[y]! d[x]! with
  | true =>
    go_wp2_with fail
    first | go_ret2 | go_ret
    exact ⟨y, x, rfl, hy, hx, Ob.Obj.other HQ.out.a (p := ⟨sb, 0, none⟩) hsb.symm _, ⟨_, HS.out.set _⟩, HQ.out.k.trans (Sq.Kept.setCell _ _ (fun h => h rfl))⟩
  | false =>
    go_wp2_with fail
    first | go_ret2 | go_ret
    exact ⟨x, y, rfl, hx, hy, HQ.out⟩

set_option maxRecDepth 100000 in
set_option maxHeartbeats 4000000 in
theorem med_any (b cap sb lo hi x y z : Nat) (d : Array Int) (rest : List Value) (w0 w : World) (hC : Cn b sb d rest w0 w) (hsb : sb ≠ b) (h2 : hi ≤ d.size) (hx : lo ≤ x ∧ x < hi) (hy : lo ≤ y ∧ y < hi) (hz : lo ≤ z ∧ z < hi) :
    Calls Try.prog 102 #[.slice (some ⟨b, 0, none⟩) d.size cap, .int .i64 (x : Int), .int .i64 (y : Int), .int .i64 (z : Int), .pointer (some ⟨sb, 0, none⟩)] w fun e w' => ∃ p : Nat, e = .returned (.int .i64 (p : Int)) ∧ (lo ≤ p ∧ p < hi) ∧ Cn b sb d rest w0 w' := by
  have HO := Lib.hid (fun x y W hC hx hy => order_any b cap sb lo hi x y d rest w0 W hC hsb h2 hx hy)
  have HC := Lib.hid hC
  clear hC
  go_enter Try.func102, Try.ntmps102
  go_wp2_with (first
    | (go_at_call 103; (with_reducible refine (HO.out x y _ HC.out hx hy).mono ?_); rintro e w1 ⟨p1, q1, rfl, hp1, hq1, hC1⟩)
    | (go_at_call 103; (with_reducible refine (HO.out q1 z _ hC1 hq1 hz).mono ?_); rintro e w2 ⟨p2, q2, rfl, hp2, hq2, hC2⟩)
    | (go_at_call 103; (with_reducible refine (HO.out p1 p2 _ hC2 hp1 hp2).mono ?_); rintro e w3 ⟨p3, q3, rfl, hp3, hq3, hC3⟩))
  go_ret
  exact ⟨q3, rfl, hq3, hC3⟩

set_option maxRecDepth 100000 in
set_option maxHeartbeats 4000000 in
theorem adj_any (b cap sb lo hi x : Nat) (d : Array Int) (rest : List Value) (w0 w : World) (hC : Cn b sb d rest w0 w) (hsb : sb ≠ b) (h2 : hi ≤ d.size) (hsz : d.size ≤ 1099511627776) (hx : lo + 1 ≤ x ∧ x + 1 < hi) :
    Calls Try.prog 101 #[.slice (some ⟨b, 0, none⟩) d.size cap, .int .i64 (x : Int), .pointer (some ⟨sb, 0, none⟩)] w fun e w' => ∃ p : Nat, e = .returned (.int .i64 (p : Int)) ∧ (lo ≤ p ∧ p < hi) ∧ Cn b sb d rest w0 w' := by
  obtain ⟨X0, hX0⟩ := named (x - 1)
  obtain ⟨X1, hX1⟩ := named (x + 1)
  have hw0 : IntKind.i64.wrap ((x : Int) - 1) = (X0 : Int) := by rw [IntKind.wrap_i64]; omega
  have hw1 : IntKind.i64.wrap ((x : Int) + 1) = (X1 : Int) := by rw [IntKind.wrap_i64]; omega
  have HO := Lib.hid (med_any b cap sb lo hi X0 x X1 d rest w0 w hC hsb h2 (by omega) (by omega) (by omega))
  clear hC
  go_enter Try.func101, Try.ntmps101
  go_wp2_with (go_at_call 102; (with_reducible refine (HO.out).mono ?_); rintro e w1 ⟨p1, rfl, hp1, hC1⟩)
  go_ret
  exact ⟨p1, rfl, hp1, hC1⟩

theorem piv_in {lo hi N Q Q2 Q3 I J K : Nat} (h8 : 12 < N) (hN : N ≤ hi - lo ∧ hi - lo ≤ N) (hQ : Q ≤ N / 4 ∧ N / 4 ≤ Q) (hQ2 : Q2 ≤ Q * 2 ∧ Q * 2 ≤ Q2) (hQ3 : Q3 ≤ Q * 3 ∧ Q * 3 ≤ Q3) (hI : I ≤ lo + Q ∧ lo + Q ≤ I) (hJ : J ≤ lo + Q2 ∧ lo + Q2 ≤ J) (hK : K ≤ lo + Q3 ∧ lo + Q3 ≤ K) :
    (lo + 1 ≤ I ∧ I + 1 < hi) ∧ (lo + 1 ≤ J ∧ J + 1 < hi) ∧ (lo + 1 ≤ K ∧ K + 1 < hi) := by omega
theorem wide_in {lo hi x : Nat} (h : lo + 1 ≤ x ∧ x + 1 < hi) : lo ≤ x ∧ x < hi := by omega
theorem wrap_mul {Q c R : Nat} (hR : R ≤ Q * c ∧ Q * c ≤ R) (h : R ≤ 1099511627776) : IntKind.i64.wrap ((Q : Int) * (c : Int)) = (R : Int) := by
  have e : (Q : Int) * (c : Int) = ((Q * c : Nat) : Int) := by simp
  rw [e, IntKind.wrap_i64]; omega

set_option maxRecDepth 100000 in
set_option maxHeartbeats 4000000 in
theorem piv_any (b cap lo hi : Nat) (d : Array Int) (rest : List Value) (w : World) (hA : Ar w b d rest) (h1 : 12 < hi - lo) (h2 : hi ≤ d.size) (hsz : d.size ≤ 1099511627776) :
    Calls Try.prog 87 #[.slice (some ⟨b, 0, none⟩) d.size cap, .int .i64 (lo : Int), .int .i64 (hi : Int)] w fun e w' => ∃ (p : Nat) (h : Int), e = .returned (.tuple #[.int .i64 (p : Int), .int .i64 h]) ∧ (lo ≤ p ∧ p < hi) ∧ Ar w' b d rest ∧ Sq.Kept (fun _ => True) w w' := by
  obtain ⟨N, hN⟩ := named (hi - lo)
  obtain ⟨Q, hQ⟩ := named (N / 4)
  obtain ⟨Q2, hQ2⟩ := named (Q * 2)
  obtain ⟨Q3, hQ3⟩ := named (Q * 3)
  obtain ⟨I, hI⟩ := named (lo + Q)
  obtain ⟨J, hJ⟩ := named (lo + Q2)
  obtain ⟨K, hK⟩ := named (lo + Q3)
  have hp := piv_in (by omega : 12 < N) hN hQ hQ2 hQ3 hI hJ hK
  have hbl := hA.lt
  have hw1 : IntKind.i64.wrap ((hi : Int) - (lo : Int)) = (N : Int) := by rw [IntKind.wrap_i64]; omega
  have hw3 : (N : Int) / 4 = (Q : Int) := by omega
  have hwq : IntKind.i64.wrap (Q : Int) = (Q : Int) := by rw [IntKind.wrap_i64]; omega
  have hw4 : IntKind.i64.wrap ((Q : Int) * 2) = (Q2 : Int) := wrap_mul (c := 2) hQ2 (by omega)
  have hw4' : IntKind.i64.wrap ((Q : Int) * 3) = (Q3 : Int) := wrap_mul (c := 3) hQ3 (by omega)
  have hw5 : IntKind.i64.wrap ((lo : Int) + (Q : Int)) = (I : Int) := wrap_sum hI (by omega)
  have hw6 : IntKind.i64.wrap ((lo : Int) + (Q2 : Int)) = (J : Int) := wrap_sum hJ (by omega)
  have hw7 : IntKind.i64.wrap ((lo : Int) + (Q3 : Int)) = (K : Int) := wrap_sum hK (by omega)
  have h8 : (8 : Int) ≤ (N : Int) := by omega
  have hwb : w.heap.size ≠ b := by omega
  obtain ⟨W0, hW0⟩ : ∃ W0, w.alloc (.cells #[.int .i64 0] 3) = W0 := ⟨_, rfl⟩
  have hC0 : Cn b w.heap.size d rest W0 W0 := by rw [← hW0]; exact ⟨Ob.Obj.alloc hA _, ⟨0, Boxed.new w _ _⟩, Sq.Kept.refl _ _⟩
  have HC0 := Lib.hid hC0
  have HM := Lib.hid (fun x y z W hC hx hy hz => med_any b cap w.heap.size lo hi x y z d rest W0 W hC hwb h2 hx hy hz)
  have HJ := Lib.hid (fun x W hC hx => adj_any b cap w.heap.size lo hi x d rest W0 W hC hwb h2 hsz hx)
  have HE := Lib.hid (show ∀ W, Cn b w.heap.size d rest W0 W → Sq.Kept (fun _ => True) w W from fun W h => by
    have h9 : Sq.Kept (fun k => k ≠ w.heap.size) w W0 := by rw [← hW0]; exact Sq.Kept.alloc _ _ _
    exact (h9.trans h.k).less fun k _ hl => by omega)
  clear hA hC0
  go_enter Try.func87, Try.ntmps87
  by_cases h50 : 50 ≤ N
  · have h50' : (50 : Int) ≤ (N : Int) := by omega
    go_upto_region 12 with (first
      | (go_at_call 101; (with_reducible refine (HJ.out I _ HC0.out hp.1).mono ?_); rintro e w1 ⟨p1, rfl, hp1, hC1⟩)
      | (go_at_call 101; (with_reducible refine (HJ.out J _ hC1 hp.2.1).mono ?_); rintro e w2 ⟨p2, rfl, hp2, hC2⟩)
      | (go_at_call 101; (with_reducible refine (HJ.out K _ hC2 hp.2.2).mono ?_); rintro e w3 ⟨p3, rfl, hp3, hC3⟩)
      | (go_at_call 102; (with_reducible refine (HM.out p1 p2 p3 _ hC3 hp1 hp2 hp3).mono ?_); rintro e w4 ⟨p4, rfl, hp4, hC4⟩))
    obtain ⟨s, hs⟩ := hC4.s
    have cs := hs.cell
    have HC4 := Lib.hid hC4
    clear hC4 hs HM HJ
    cases h0 : (s == 0) with
    | true =>
      go_wp2_with fail
      first | go_ret2 | go_ret
      exact ⟨p4, _, rfl, hp4, HC4.out.a, HE.out _ HC4.out⟩
    | false =>
      cases h12 : (s == 12) with
      | true =>
        go_wp2_with fail
        first | go_ret2 | go_ret
        exact ⟨p4, _, rfl, hp4, HC4.out.a, HE.out _ HC4.out⟩
      | false =>
        go_wp2_with fail
        first | go_ret2 | go_ret
        exact ⟨p4, _, rfl, hp4, HC4.out.a, HE.out _ HC4.out⟩
  · have h50' : ¬ (50 : Int) ≤ (N : Int) := by omega
    go_upto_region 12 with (go_at_call 102; (with_reducible refine (HM.out I J K _ HC0.out (wide_in hp.1) (wide_in hp.2.1) (wide_in hp.2.2)).mono ?_); rintro e w4 ⟨p4, rfl, hp4, hC4⟩)
    obtain ⟨s, hs⟩ := hC4.s
    have cs := hs.cell
    have HC4 := Lib.hid hC4
    clear hC4 hs HM HJ
    cases h0 : (s == 0) with
    | true =>
      go_wp2_with fail
      first | go_ret2 | go_ret
      exact ⟨p4, _, rfl, hp4, HC4.out.a, HE.out _ HC4.out⟩
    | false =>
      cases h12 : (s == 12) with
      | true =>
        go_wp2_with fail
        first | go_ret2 | go_ret
        exact ⟨p4, _, rfl, hp4, HC4.out.a, HE.out _ HC4.out⟩
      | false =>
        go_wp2_with fail
        first | go_ret2 | go_ret
        exact ⟨p4, _, rfl, hp4, HC4.out.a, HE.out _ HC4.out⟩
end So6
end Go.Proofs.Ythcllaombabpbaa

/-
  partitionEqual, partition over a row of uint64.
-/
namespace Go.Proofs.Ythcllaombabpbaa
open Go.RowKit Go.Sort
set_option linter.unusedSimpArgs false
set_option linter.unusedVariables false
namespace So6
theorem up_go {p : Int → Bool} {d : Array Int} {i j : Nat} (h : i ≤ j) (hp : p d[i]! = true) : scanUp p d j i = scanUp p d j (i + 1) := by
  rw [scanUp]; simp [h, hp]
theorem up_stop {p : Int → Bool} {d : Array Int} {i j : Nat} (h : ¬ i ≤ j ∨ p d[i]! = false) : scanUp p d j i = i := by
  rw [scanUp]
  rcases h with h | h
  · simp [h]
  · simp [h]
theorem down_go {p : Int → Bool} {d : Array Int} {i j : Nat} (h : i ≤ j) (h0 : 1 ≤ j) (hp : p d[j]! = true) : scanDown p d i j = scanDown p d i (j - 1) := by
  obtain ⟨k, rfl⟩ : ∃ k, j = k + 1 := ⟨j - 1, by omega⟩
  rw [scanDown, if_pos (by simp [h, hp])]
  rfl
theorem down_stop {p : Int → Bool} {d : Array Int} {i j : Nat} (h : ¬ i ≤ j ∨ p d[j]! = false) : scanDown p d i j = j := by
  cases j with
  | zero => rfl
  | succ k =>
    rw [scanDown, if_neg]
    rcases h with h | h
    · simp [h]
    · simp [h]
theorem in_row {lo hi i j : Nat} {d' d : Array Int} (hds : d'.size = d.size) (h : i ≤ j) (hj : j < hi) (h2 : hi ≤ d.size) : i < d'.size := by omega

set_option maxRecDepth 100000 in
set_option maxHeartbeats 8000000 in
theorem parteq_any (b cap lo hi pv : Nat) (d : Array Int) (rest : List Value) (w : World) (hA : Ar w b d rest) (h1 : lo ≤ pv ∧ pv < hi) (h2 : hi ≤ d.size) (hsz : d.size ≤ 1099511627776) :
    Calls Try.prog 90 #[.slice (some ⟨b, 0, none⟩) d.size cap, .int .i64 (lo : Int), .int .i64 (hi : Int), .int .i64 (pv : Int)] w fun e w' =>
      e = .returned (.int .i64 ((partitionEqual ltInt d lo hi pv).1 : Int)) ∧ Ar w' b (partitionEqual ltInt d lo hi pv).2 rest ∧ Sq.Kept (fun k => k ≠ b) w w' := by
  obtain ⟨RES, hRES⟩ : ∃ RES, RES = partitionEqual ltInt d lo hi pv := ⟨_, rfl⟩
  rw [← hRES]
  have HRES := Lib.hid hRES
  clear hRES
  obtain ⟨I0, hI0⟩ := named (lo + 1)
  obtain ⟨J0, hJ0⟩ := named (hi - 1)
  have hw1 : IntKind.i64.wrap ((lo : Int) + 1) = (I0 : Int) := by rw [IntKind.wrap_i64]; omega
  have hw2 : IntKind.i64.wrap ((hi : Int) - 1) = (J0 : Int) := by rw [IntKind.wrap_i64]; omega
  have hl1 : lo < d.size := by omega
  have hp1 : pv < d.size := by omega
  have hi0 : (0 : Int) ≤ (lo : Int) ∧ (lo : Int) < (d.size : Int) := cast_in hl1
  have hi1 : (0 : Int) ≤ (pv : Int) ∧ (pv : Int) < (d.size : Int) := cast_in hp1
  have c0 := hA.cell (j := lo) hl1
  have c1 := hA.cell (j := pv) hp1
  have f0 := hA.frozen lo
  have f1 := hA.frozen pv
  have c2 := (hA.set (i := lo) hl1 d[pv]!).cell (j := pv) (by rw [Array.size_setIfInBounds]; exact hp1)
  have f2 := (hA.set (i := lo) hl1 d[pv]!).frozen pv
  have HA := Lib.hid hA
  have HL1 := Lib.hid hl1
  have HP1 := Lib.hid hp1
  clear hA hl1 hp1
  go_enter Try.func90, Try.ntmps90
  go_upto_region 1 with fail
  go_cut [] from 11 to 25 (fun wx => Ar wx b (swp d lo pv) rest ∧ Sq.Kept (fun k => k ≠ b) w wx)
  case first =>
    go_region
    all_goals (try go_wp2_with fail)
    all_goals go_meet
    all_goals exact ⟨(HA.out.drewN 1).swap HL1.out HP1.out, (Sq.Kept.drewN _ _ 1).trans (kept_swap _ _)⟩
  case rest =>
    obtain ⟨hA3, hK3⟩ := hcut
    clear c0 c1 f0 f1 c2 f2
    go_wp2_with fail
    go_loopw [9, 10] (fun i j wr => ∃ (p q : Nat) (d' : Array Int), lo < p ∧ p ≤ q + 1 ∧ q < hi ∧ i = .int .i64 (p : Int) ∧ j = .int .i64 (q : Int) ∧ d'.size = d.size ∧ partEqLoop ltInt lo p q d' = RES ∧ Ar wr b d' rest ∧ Sq.Kept (fun k => k ≠ b) w wr) (fun i j _ => (intOf j + 1 - intOf i).toNat)
    case atStart => exact ⟨I0, J0, swp d lo pv, by omega, by omega, by omega, rfl, rfl, swp_size _ _ _, by rw [HRES.out]; unfold partitionEqual; rw [show I0 = lo + 1 by omega, show J0 = hi - 1 by omega], hA3, hK3⟩
    case round =>
      obtain ⟨p, q, d', hp, hpq, hq, rfl, rfl, hds, hR, hA', hK⟩ := hrel
      obtain ⟨wo, rfl⟩ : ∃ wo : World, wo = wr := ⟨_, rfl⟩
      rw [partEqLoop_eq] at hR
      have HR := Lib.hid hR
      have HDS := Lib.hid hds
      clear hR
      clear hds
      go_upto_block 2 with fail
      go_cut [9] from 29 to 46 (fun u wx => ∃ x : Nat, u = .int .i64 (x : Int) ∧ p ≤ x ∧ x ≤ q + 1 ∧ x = scanUp (fun y => !ltInt d'[lo]! y) d' q p ∧ Ar wx b d' rest ∧ Sq.Kept (fun k => k ≠ b) w wx)
      case first =>
        go_wp2_with fail
        go_loopw [9] (fun i wr => ∃ x : Nat, p ≤ x ∧ x ≤ q + 1 ∧ i = .int .i64 (x : Int) ∧ scanUp (fun y => !ltInt d'[lo]! y) d' q x = scanUp (fun y => !ltInt d'[lo]! y) d' q p ∧ Ar wr b d' rest ∧ Sq.Kept (fun k => k ≠ b) w wr) (fun i _ => q + 1 - (intOf i).toNat)
        case atStart => exact ⟨p, Nat.le_refl _, hpq, rfl, rfl, hA', hK⟩
        case round =>
          obtain ⟨x, hx1, hx2, rfl, hup, hA2, hK2⟩ := hrel
          have HUP := Lib.hid hup
          clear hup
          by_cases hle : x ≤ q
          · have hle2 : (x : Int) ≤ (q : Int) := by omega
            have hxr : x < d'.size := in_row (lo := lo) HDS.out hle hq h2
            have hix : (0 : Int) ≤ (x : Int) ∧ (x : Int) < (d.size : Int) := cast_in (HDS.out ▸ hxr)
            have hwx : IntKind.i64.wrap ((x : Int) + 1) = ((x + 1 : Nat) : Int) := by rw [IntKind.wrap_i64]; omega
            have c0 := hA2.cell (j := lo) (HDS.out ▸ HL1.out)
            have c1 := hA2.cell (j := x) hxr
            have HA2 := Lib.hid hA2
            have HK2 := Lib.hid hK2
            clear hA2 hK2 hxr
            go_wp2_with fail
            go_big_quiet ((go_at_call 72; exact Calls.quiet_of_same (less_any _ _ _)))
            cases hL : ltInt d'[lo]! d'[x]! with
            | true =>
              go_wp2_with fail
              go_meet
              exact ⟨x, rfl, hx1, hx2, by rw [← HUP.out, up_stop (.inr (by simp [hL]))], HA2.out.drewN nq, HK2.out.trans (Sq.Kept.drewN _ _ _)⟩
            | false =>
              go_wp2_with fail
              go_roundw
              case rel => exact ⟨x + 1, by omega, by omega, by first | rfl | (simp; done) | go_num, by rw [← HUP.out]; exact (up_go hle (by simp [hL])).symm, HA2.out.drewN nq, HK2.out.trans (Sq.Kept.drewN _ _ _)⟩
              case measure => simp [intOf]; omega
          · have hle2 : ¬ (x : Int) ≤ (q : Int) := by omega
            have HA2 := Lib.hid hA2
            have HK2 := Lib.hid hK2
            clear hA2 hK2
            go_wp2_with fail
            go_big_quiet (fail)
            go_wp2_with fail
            go_meet
            exact ⟨x, rfl, hx1, hx2, by rw [← HUP.out, up_stop (.inl hle)], HA2.out.drewN nq, HK2.out.trans (Sq.Kept.drewN _ _ _)⟩
      case rest =>
        obtain ⟨x, rfl, hx1, hx2, hxe, hA2, hK2⟩ := hcut
        have HXE := Lib.hid hxe
        clear hxe hA' hK
        go_upto_block 4 with fail
        go_cut [10] from 46 to 62 (fun u wx => ∃ y : Nat, u = .int .i64 (y : Int) ∧ x ≤ y + 1 ∧ y ≤ q ∧ y = scanDown (fun z => ltInt d'[lo]! z) d' x q ∧ Ar wx b d' rest ∧ Sq.Kept (fun k => k ≠ b) w wx)
        case first =>
          go_wp2_with fail
          go_loopw [10] (fun i wr => ∃ y : Nat, x ≤ y + 1 ∧ y ≤ q ∧ i = .int .i64 (y : Int) ∧ scanDown (fun z => ltInt d'[lo]! z) d' x y = scanDown (fun z => ltInt d'[lo]! z) d' x q ∧ Ar wr b d' rest ∧ Sq.Kept (fun k => k ≠ b) w wr) (fun i _ => (intOf i).toNat)
          case atStart => exact ⟨q, hx2, Nat.le_refl _, rfl, rfl, hA2, hK2⟩
          case round =>
            obtain ⟨y, hy1, hy2, rfl, hdn, hA2, hK2⟩ := hrel
            have HDN := Lib.hid hdn
            clear hdn
            by_cases hle : x ≤ y
            · have hle2 : (x : Int) ≤ (y : Int) := by omega
              have hyr : y < d'.size := in_row (lo := lo) HDS.out hy2 hq h2
              have hiy : (0 : Int) ≤ (y : Int) ∧ (y : Int) < (d.size : Int) := cast_in (HDS.out ▸ hyr)
              obtain ⟨y2, hy3⟩ := named (y - 1)
              have hwy : IntKind.i64.wrap ((y : Int) - 1) = (y2 : Int) := by rw [IntKind.wrap_i64]; omega
              have c0 := hA2.cell (j := lo) (HDS.out ▸ HL1.out)
              have c1 := hA2.cell (j := y) hyr
              have HA2 := Lib.hid hA2
              have HK2 := Lib.hid hK2
              clear hA2 hK2 hyr
              go_wp2_with fail
              go_big_quiet ((go_at_call 72; exact Calls.quiet_of_same (less_any _ _ _)))
              cases hL : ltInt d'[lo]! d'[y]! with
              | false =>
                go_wp2_with fail
                go_meet
                exact ⟨y, rfl, hy1, hy2, by rw [← HDN.out, down_stop (.inr hL)], HA2.out.drewN nq, HK2.out.trans (Sq.Kept.drewN _ _ _)⟩
              | true =>
                go_wp2_with fail
                go_roundw
                case rel => exact ⟨y2, by omega, by omega, by first | rfl | (simp; done) | go_num, by rw [← HDN.out, show y2 = y - 1 by omega]; exact (down_go hle (by omega) hL).symm, HA2.out.drewN nq, HK2.out.trans (Sq.Kept.drewN _ _ _)⟩
                case measure => simp [intOf]; omega
            · have hle2 : ¬ (x : Int) ≤ (y : Int) := by omega
              have HA2 := Lib.hid hA2
              have HK2 := Lib.hid hK2
              clear hA2 hK2
              go_wp2_with fail
              go_big_quiet (fail)
              go_wp2_with fail
              go_meet
              exact ⟨y, rfl, hy1, hy2, by rw [← HDN.out, down_stop (.inl hle)], HA2.out.drewN nq, HK2.out.trans (Sq.Kept.drewN _ _ _)⟩
        case rest =>
          obtain ⟨y, rfl, hy1, hy2, hye, hA3, hK3⟩ := hcut
          have HYE := Lib.hid hye
          clear hye hA2 hK2
          by_cases hgt : y < x
          · have hgt2 : (y : Int) < (x : Int) := by omega
            have hres : RES = (x, d') := by
              have h := HR.out
              rw [← HXE.out, ← HYE.out, if_pos hgt] at h
              exact h.symm
            have HA3 := Lib.hid hA3
            have HK3 := Lib.hid hK3
            have HRS := Lib.hid hres
            clear hA3 hK3 hres
            go_wp2_with fail
            go_ret
            rw [HRS.out]
            exact ⟨rfl, HA3.out, HK3.out⟩
          · have hgt2 : ¬ (y : Int) < (x : Int) := by omega
            have hlt : x < y := by
              have h7 := (round_facts (fun z => !ltInt d'[lo]! z) (fun z => ltInt d'[lo]! z) (fun z => by simp) d' (p - 1) (q + 1) p q (by omega) hpq (fun t h1 h2 => by omega) (fun t h1 h2 => by omega)).2.2.2.2.2.2
              rw [← HXE.out, ← HYE.out] at h7
              exact (h7 (by omega)).2.2
            have hxr : x < d'.size := in_row (lo := lo) HDS.out (by omega : x ≤ y) (by omega : y < hi) h2
            have hyr : y < d'.size := in_row (lo := lo) HDS.out (Nat.le_refl y) (by omega : y < hi) h2
            have hix : (0 : Int) ≤ (x : Int) ∧ (x : Int) < (d.size : Int) := cast_in (HDS.out ▸ hxr)
            have hiy : (0 : Int) ≤ (y : Int) ∧ (y : Int) < (d.size : Int) := cast_in (HDS.out ▸ hyr)
            have hwx : IntKind.i64.wrap ((x : Int) + 1) = ((x + 1 : Nat) : Int) := by rw [IntKind.wrap_i64]; omega
            obtain ⟨y2, hy3⟩ := named (y - 1)
            have hwy : IntKind.i64.wrap ((y : Int) - 1) = (y2 : Int) := by rw [IntKind.wrap_i64]; omega
            have hres : partEqLoop ltInt lo (x + 1) (y - 1) (swp d' x y) = RES := by
              have h := HR.out
              rw [← HXE.out, ← HYE.out, if_neg (by omega)] at h
              exact h
            have HRS := Lib.hid hres
            have c0 := hA3.cell (j := x) hxr
            have c1 := hA3.cell (j := y) hyr
            have f0 := hA3.frozen x
            have f1 := hA3.frozen y
            have c2 := (hA3.set (i := x) hxr d'[y]!).cell (j := y) (by rw [Array.size_setIfInBounds]; exact hyr)
            have f2 := (hA3.set (i := x) hxr d'[y]!).frozen y
            have HA3 := Lib.hid hA3
            have HK3 := Lib.hid hK3
            have HXR := Lib.hid hxr
            have HYR := Lib.hid hyr
            clear hA3 hK3 hres hxr hyr
            go_upto_region 8 with fail
            go_cut [] from 65 to 79 (fun wy => Ar wy b (swp d' x y) rest ∧ Sq.Kept (fun k => k ≠ b) w wy)
            case first =>
              go_region
              all_goals (try go_wp2_with fail)
              all_goals go_meet
              all_goals exact ⟨(HA3.out.drewN 1).swap HXR.out HYR.out, (HK3.out.trans (Sq.Kept.drewN _ _ 1)).trans (kept_swap _ _)⟩
            case rest =>
              obtain ⟨hA4, hK4⟩ := hcut
              have HA4 := Lib.hid hA4
              have HK4 := Lib.hid hK4
              clear c0 c1 f0 f1 c2 f2 hA4 hK4
              go_wp2_with fail
              go_roundw
              case rel => exact ⟨x + 1, y2, swp d' x y, by omega, by omega, by omega, rfl, rfl, by rw [swp_size]; exact HDS.out, by rw [show y2 = y - 1 by omega]; exact HRS.out, HA4.out, HK4.out⟩
              case measure => simp [intOf]; omega
end So6
end Go.Proofs.Ythcllaombabpbaa

/-
  partition over a row of uint64.
-/
namespace Go.Proofs.Ythcllaombabpbaa
open Go.RowKit Go.Sort
set_option linter.unusedSimpArgs false
set_option linter.unusedVariables false
namespace So6

theorem scans_apart (d : Array Int) (lo p q : Nat) (hp : 0 < p) (hpq : p ≤ q + 1) {x y : Nat} (hx : x = scanUp (fun z => ltInt z d[lo]!) d q p) (hy : y = scanDown (fun z => !ltInt z d[lo]!) d x q) (h : ¬ y < x) : x < y := by
  have h7 := (round_facts (fun z => ltInt z d[lo]!) (fun z => !ltInt z d[lo]!) (fun z => rfl) d (p - 1) (q + 1) p q (by omega) hpq (fun t h1 h2 => by omega) (fun t h1 h2 => by omega)).2.2.2.2.2.2
  rw [← hx, ← hy] at h7
  exact (h7 (by omega)).2.2

set_option maxRecDepth 100000 in
set_option maxHeartbeats 8000000 in
theorem part_any (b cap lo hi pv : Nat) (d : Array Int) (rest : List Value) (w : World) (hA : Ar w b d rest) (h1 : lo ≤ pv ∧ pv < hi) (h2 : hi ≤ d.size) (hsz : d.size ≤ 1099511627776) :
    Calls Try.prog 91 #[.slice (some ⟨b, 0, none⟩) d.size cap, .int .i64 (lo : Int), .int .i64 (hi : Int), .int .i64 (pv : Int)] w fun e w' =>
      e = .returned (.tuple #[.int .i64 ((partition ltInt d lo hi pv).1 : Int), .bool (partition ltInt d lo hi pv).2.1]) ∧ Ar w' b (partition ltInt d lo hi pv).2.2 rest ∧ Sq.Kept (fun k => k ≠ b) w w' := by
  obtain ⟨RES, hRES⟩ : ∃ RES, RES = partition ltInt d lo hi pv := ⟨_, rfl⟩
  rw [← hRES]
  obtain ⟨D1, hD1⟩ : ∃ D1, D1 = swp d lo pv := ⟨_, rfl⟩
  obtain ⟨I0, hI0⟩ := named (lo + 1)
  obtain ⟨J0, hJ0⟩ := named (hi - 1)
  have hq : J0 < hi := by omega
  have hpq : I0 ≤ J0 + 1 := by omega
  have HD1 : Hid (D1.size = d.size) := Lib.hid (by rw [hD1, swp_size])
  unfold partition at hRES
  simp only [← hD1] at hRES
  rw [show lo + 1 = I0 by omega, show hi - 1 = J0 by omega] at hRES
  have HRES := Lib.hid hRES
  have HDE := Lib.hid hD1
  clear hRES hD1
  have hw1 : IntKind.i64.wrap ((lo : Int) + 1) = (I0 : Int) := by rw [IntKind.wrap_i64]; omega
  have hw2 : IntKind.i64.wrap ((hi : Int) - 1) = (J0 : Int) := by rw [IntKind.wrap_i64]; omega
  have hl1 : lo < d.size := by omega
  have hp1 : pv < d.size := by omega
  have hi0 : (0 : Int) ≤ (lo : Int) ∧ (lo : Int) < (d.size : Int) := cast_in hl1
  have hi1 : (0 : Int) ≤ (pv : Int) ∧ (pv : Int) < (d.size : Int) := cast_in hp1
  have c0 := hA.cell (j := lo) hl1
  have c1 := hA.cell (j := pv) hp1
  have f0 := hA.frozen lo
  have f1 := hA.frozen pv
  have c2 := (hA.set (i := lo) hl1 d[pv]!).cell (j := pv) (by rw [Array.size_setIfInBounds]; exact hp1)
  have f2 := (hA.set (i := lo) hl1 d[pv]!).frozen pv
  have HA := Lib.hid hA
  have HL1 := Lib.hid hl1
  have HP1 := Lib.hid hp1
  clear hA hl1 hp1
  go_enter Try.func91, Try.ntmps91
  go_upto_region 1 with fail
  go_cut [] from 12 to 26 (fun wx => Ar wx b D1 rest ∧ Sq.Kept (fun k => k ≠ b) w wx)
  case first =>
    go_region
    all_goals (try go_wp2_with fail)
    all_goals go_meet
    all_goals exact ⟨by rw [HDE.out]; exact (HA.out.drewN 1).swap HL1.out HP1.out, (Sq.Kept.drewN _ _ 1).trans (kept_swap _ _)⟩
  case rest =>
    obtain ⟨hA3, hK3⟩ := hcut
    clear c0 c1 f0 f1 c2 f2
    go_upto_block 0 with fail
    go_cut [10] from 30 to 46 (fun u wx => ∃ x : Nat, u = .int .i64 (x : Int) ∧ I0 ≤ x ∧ x ≤ J0 + 1 ∧ x = scanUp (fun z => ltInt z D1[lo]!) D1 J0 I0 ∧ Ar wx b D1 rest ∧ Sq.Kept (fun k => k ≠ b) w wx)
    case first =>
      go_wp2_with fail
      go_loopw [10] (fun i wr => ∃ x : Nat, I0 ≤ x ∧ x ≤ J0 + 1 ∧ i = .int .i64 (x : Int) ∧ scanUp (fun z => ltInt z D1[lo]!) D1 J0 x = scanUp (fun z => ltInt z D1[lo]!) D1 J0 I0 ∧ Ar wr b D1 rest ∧ Sq.Kept (fun k => k ≠ b) w wr) (fun i _ => J0 + 1 - (intOf i).toNat)
      case atStart => exact ⟨I0, Nat.le_refl _, hpq, rfl, rfl, hA3, hK3⟩
      case round =>
        obtain ⟨x, hx1, hx2, rfl, hup, hA2, hK2⟩ := hrel
        have HUP := Lib.hid hup
        clear hup
        by_cases hle : x ≤ J0
        · have hle2 : (x : Int) ≤ (J0 : Int) := by omega
          have hxr : x < D1.size := in_row (lo := lo) HD1.out hle hq h2
          have hix : (0 : Int) ≤ (x : Int) ∧ (x : Int) < (d.size : Int) := cast_in (HD1.out ▸ hxr)
          have hwx : IntKind.i64.wrap ((x : Int) + 1) = ((x + 1 : Nat) : Int) := by rw [IntKind.wrap_i64]; omega
          have c0 := hA2.cell (j := lo) (HD1.out ▸ HL1.out)
          have c1 := hA2.cell (j := x) hxr
          have HA2 := Lib.hid hA2
          have HK2 := Lib.hid hK2
          clear hA2 hK2 hxr
          go_wp2_with fail
          go_big_quiet ((go_at_call 72; exact Calls.quiet_of_same (less_any _ _ _)))
          cases hL : ltInt D1[x]! D1[lo]! with
          | false =>
            go_wp2_with fail
            go_meet
            exact ⟨x, rfl, hx1, hx2, by rw [← HUP.out, up_stop (p := fun z => ltInt z D1[lo]!) (.inr hL)], HA2.out.drewN nq, HK2.out.trans (Sq.Kept.drewN _ _ _)⟩
          | true =>
            go_wp2_with fail
            go_roundw
            case rel => exact ⟨x + 1, by omega, by omega, by first | rfl | (simp; done) | go_num, by rw [← HUP.out]; exact (up_go hle hL).symm, HA2.out.drewN nq, HK2.out.trans (Sq.Kept.drewN _ _ _)⟩
            case measure => simp [intOf]; omega
        · have hle2 : ¬ (x : Int) ≤ (J0 : Int) := by omega
          have HA2 := Lib.hid hA2
          have HK2 := Lib.hid hK2
          clear hA2 hK2
          go_wp2_with fail
          go_big_quiet (fail)
          go_wp2_with fail
          go_meet
          exact ⟨x, rfl, hx1, hx2, by rw [← HUP.out, up_stop (.inl hle)], HA2.out.drewN nq, HK2.out.trans (Sq.Kept.drewN _ _ _)⟩
    case rest =>
      obtain ⟨x, rfl, hx1, hx2, hxe, hA2, hK2⟩ := hcut
      have HXE := Lib.hid hxe
      clear hxe hA3 hK3
      go_upto_block 2 with fail
      go_cut [11] from 46 to 63 (fun u wx => ∃ y : Nat, u = .int .i64 (y : Int) ∧ x ≤ y + 1 ∧ y ≤ J0 ∧ y = scanDown (fun z => !ltInt z D1[lo]!) D1 x J0 ∧ Ar wx b D1 rest ∧ Sq.Kept (fun k => k ≠ b) w wx)
      case first =>
        go_wp2_with fail
        go_loopw [11] (fun i wr => ∃ y : Nat, x ≤ y + 1 ∧ y ≤ J0 ∧ i = .int .i64 (y : Int) ∧ scanDown (fun z => !ltInt z D1[lo]!) D1 x y = scanDown (fun z => !ltInt z D1[lo]!) D1 x J0 ∧ Ar wr b D1 rest ∧ Sq.Kept (fun k => k ≠ b) w wr) (fun i _ => (intOf i).toNat)
        case atStart => exact ⟨J0, hx2, Nat.le_refl _, rfl, rfl, hA2, hK2⟩
        case round =>
          obtain ⟨y, hy1, hy2, rfl, hdn, hA2, hK2⟩ := hrel
          have HDN := Lib.hid hdn
          clear hdn
          by_cases hle : x ≤ y
          · have hle2 : (x : Int) ≤ (y : Int) := by omega
            have hyr : y < D1.size := in_row (lo := lo) HD1.out hy2 hq h2
            have hiy : (0 : Int) ≤ (y : Int) ∧ (y : Int) < (d.size : Int) := cast_in (HD1.out ▸ hyr)
            obtain ⟨y2, hy3⟩ := named (y - 1)
            have hwy : IntKind.i64.wrap ((y : Int) - 1) = (y2 : Int) := by rw [IntKind.wrap_i64]; omega
            have c0 := hA2.cell (j := lo) (HD1.out ▸ HL1.out)
            have c1 := hA2.cell (j := y) hyr
            have HA2 := Lib.hid hA2
            have HK2 := Lib.hid hK2
            clear hA2 hK2 hyr
            go_wp2_with fail
            go_big_quiet ((go_at_call 72; exact Calls.quiet_of_same (less_any _ _ _)))
            cases hL : ltInt D1[y]! D1[lo]! with
            | true =>
              go_wp2_with fail
              go_meet
              exact ⟨y, rfl, hy1, hy2, by rw [← HDN.out, down_stop (.inr (by simp [hL]))], HA2.out.drewN nq, HK2.out.trans (Sq.Kept.drewN _ _ _)⟩
            | false =>
              go_wp2_with fail
              go_roundw
              case rel => exact ⟨y2, by omega, by omega, by first | rfl | (simp; done) | go_num, by rw [← HDN.out, show y2 = y - 1 by omega]; exact (down_go hle (by omega) (by simp [hL])).symm, HA2.out.drewN nq, HK2.out.trans (Sq.Kept.drewN _ _ _)⟩
              case measure => simp [intOf]; omega
          · have hle2 : ¬ (x : Int) ≤ (y : Int) := by omega
            have HA2 := Lib.hid hA2
            have HK2 := Lib.hid hK2
            clear hA2 hK2
            go_wp2_with fail
            go_big_quiet (fail)
            go_wp2_with fail
            go_meet
            exact ⟨y, rfl, hy1, hy2, by rw [← HDN.out, down_stop (.inl hle)], HA2.out.drewN nq, HK2.out.trans (Sq.Kept.drewN _ _ _)⟩
      case rest =>
        obtain ⟨y, rfl, hy1, hy2, hye, hA3, hK3⟩ := hcut
        have HYE := Lib.hid hye
        clear hye hA2 hK2
        rw [← HXE.out, ← HYE.out] at HRES
        have hly : lo ≤ y ∧ y < d.size := by omega
        have hyr : y < D1.size := in_row (lo := lo) HD1.out (Nat.le_refl y) (by omega : y < hi) h2
        have hiy : (0 : Int) ≤ (y : Int) ∧ (y : Int) < (d.size : Int) := cast_in hly.2
        have hlr : lo < D1.size := HD1.out ▸ HL1.out
        clear hly
        by_cases hgt : y < x
        · have hgt2 : (y : Int) < (x : Int) := by omega
          have hres : RES = (y, true, swp D1 y lo) := by rw [HRES.out, if_pos hgt]
          have HRS := Lib.hid hres
          have c0 := hA3.cell (j := y) hyr
          have c1 := hA3.cell (j := lo) hlr
          have f0 := hA3.frozen y
          have f1 := hA3.frozen lo
          have c2 := (hA3.set (i := y) hyr D1[lo]!).cell (j := lo) (by rw [Array.size_setIfInBounds]; exact hlr)
          have f2 := (hA3.set (i := y) hyr D1[lo]!).frozen lo
          have HA3 := Lib.hid hA3
          have HK3 := Lib.hid hK3
          have HIR := Lib.hid hyr
          have HJR := Lib.hid hlr
          clear hA3 hK3 hres hyr hlr HRES
          go_upto_region 8 with fail
          go_cut [] from 66 to 80 (fun wy => Ar wy b (swp D1 y lo) rest ∧ Sq.Kept (fun k => k ≠ b) w wy)
          case first =>
            go_region
            all_goals (try go_wp2_with fail)
            all_goals go_meet
            all_goals exact ⟨(HA3.out.drewN 1).swap HIR.out HJR.out, (HK3.out.trans (Sq.Kept.drewN _ _ 1)).trans (kept_swap _ _)⟩
          case rest =>
            obtain ⟨hA4, hK4⟩ := hcut
            have HA4 := Lib.hid hA4
            have HK4 := Lib.hid hK4
            clear c0 c1 f0 f1 c2 f2 hA4 hK4
            go_wp2_with fail
            go_ret2
            rw [HRS.out]
            exact ⟨rfl, HA4.out, HK4.out⟩
        · have hgt2 : ¬ (y : Int) < (x : Int) := by omega
          have hlt : x < y := scans_apart D1 lo I0 J0 (by omega) hpq HXE.out HYE.out hgt
          have hxr : x < D1.size := Nat.lt_trans hlt hyr
          have hix : (0 : Int) ≤ (x : Int) ∧ (x : Int) < (d.size : Int) := cast_in (HD1.out ▸ hxr)
          obtain ⟨P0, hP0⟩ := named (x + 1)
          obtain ⟨Q0, hQ0⟩ := named (y - 1)
          have hwx : IntKind.i64.wrap ((x : Int) + 1) = (P0 : Int) := by rw [IntKind.wrap_i64]; omega
          have hwy : IntKind.i64.wrap ((y : Int) - 1) = (Q0 : Int) := by rw [IntKind.wrap_i64]; omega
          obtain ⟨D2, hD2⟩ : ∃ D2, D2 = swp D1 x y := ⟨_, rfl⟩
          have HD2 : Hid (D2.size = d.size) := Lib.hid (by rw [hD2, swp_size]; exact HD1.out)
          have hres : RES = ((partLoop ltInt lo P0 Q0 D2).1, false, swp (partLoop ltInt lo P0 Q0 D2).2 (partLoop ltInt lo P0 Q0 D2).1 lo) := by
            rw [HRES.out, if_neg (by omega), hD2, show P0 = x + 1 by omega, show Q0 = y - 1 by omega]
          obtain ⟨R2, hR2⟩ : ∃ R2, R2 = partLoop ltInt lo P0 Q0 D2 := ⟨_, rfl⟩
          rw [← hR2] at hres
          have HRS := Lib.hid hres
          have HR2 := Lib.hid hR2
          have HDE2 := Lib.hid hD2
          have c0 := hA3.cell (j := x) hxr
          have c1 := hA3.cell (j := y) hyr
          have f0 := hA3.frozen x
          have f1 := hA3.frozen y
          have c2 := (hA3.set (i := x) hxr D1[y]!).cell (j := y) (by rw [Array.size_setIfInBounds]; exact hyr)
          have f2 := (hA3.set (i := x) hxr D1[y]!).frozen y
          have HA3 := Lib.hid hA3
          have HK3 := Lib.hid hK3
          have HIR := Lib.hid hxr
          have HJR := Lib.hid hyr
          clear hA3 hK3 hres hR2 hD2 hyr hlr hxr HRES
          go_upto_region 10 with fail
          go_cut [] from 81 to 95 (fun wy => Ar wy b D2 rest ∧ Sq.Kept (fun k => k ≠ b) w wy)
          case first =>
            go_region
            all_goals (try go_wp2_with fail)
            all_goals go_meet
            all_goals exact ⟨by rw [HDE2.out]; exact (HA3.out.drewN 1).swap HIR.out HJR.out, (HK3.out.trans (Sq.Kept.drewN _ _ 1)).trans (kept_swap _ _)⟩
          case rest =>
            obtain ⟨hA4, hK4⟩ := hcut
            clear c0 c1 f0 f1 c2 f2 HA3 HK3 HIR HJR
            have hP1 : lo < P0 ∧ P0 ≤ Q0 + 1 ∧ Q0 < hi := by omega
            clear hgt hgt2 hlt hP0 hQ0 hiy hix hx1 hx2 hy1 hy2 HXE HYE hpq hq hI0 hJ0
            go_upto_block 4 with fail
            go_cut [10, 11] from 99 to 153 (fun u v wx => ∃ (y : Nat) (d' : Array Int), v = .int .i64 (y : Int) ∧ y < hi ∧ d'.size = d.size ∧ R2 = (y, d') ∧ Ar wx b d' rest ∧ Sq.Kept (fun k => k ≠ b) w wx)
            case first =>
              go_wp2_with fail
              go_loopw [10, 11] (fun i j wr => ∃ (p q : Nat) (d' : Array Int), lo < p ∧ p ≤ q + 1 ∧ q < hi ∧ i = .int .i64 (p : Int) ∧ j = .int .i64 (q : Int) ∧ d'.size = d.size ∧ partLoop ltInt lo p q d' = R2 ∧ Ar wr b d' rest ∧ Sq.Kept (fun k => k ≠ b) w wr) (fun i j _ => (intOf j + 1 - intOf i).toNat)
              case atStart => exact ⟨P0, Q0, D2, hP1.1, hP1.2.1, hP1.2.2, rfl, rfl, HD2.out, HR2.out.symm, hA4, hK4⟩
              case round =>
                obtain ⟨p, q, d', hp, hpq, hq, rfl, rfl, hds, hR, hA', hK⟩ := hrel
                obtain ⟨wo, rfl⟩ : ∃ wo : World, wo = wr := ⟨_, rfl⟩
                rw [partLoop_eq] at hR
                have HR := Lib.hid hR
                have HDS := Lib.hid hds
                clear hR hds hA4 hK4 hP1
                go_upto_block 6 with fail
                go_cut [10] from 99 to 115 (fun u wx => ∃ x : Nat, u = .int .i64 (x : Int) ∧ p ≤ x ∧ x ≤ q + 1 ∧ x = scanUp (fun z => ltInt z d'[lo]!) d' q p ∧ Ar wx b d' rest ∧ Sq.Kept (fun k => k ≠ b) w wx)
                case first =>
                  go_wp2_with fail
                  go_loopw [10] (fun i wr => ∃ x : Nat, p ≤ x ∧ x ≤ q + 1 ∧ i = .int .i64 (x : Int) ∧ scanUp (fun z => ltInt z d'[lo]!) d' q x = scanUp (fun z => ltInt z d'[lo]!) d' q p ∧ Ar wr b d' rest ∧ Sq.Kept (fun k => k ≠ b) w wr) (fun i _ => q + 1 - (intOf i).toNat)
                  case atStart => exact ⟨p, Nat.le_refl _, hpq, rfl, rfl, hA', hK⟩
                  case round =>
                    obtain ⟨x, hx1, hx2, rfl, hup, hA2, hK2⟩ := hrel
                    have HUP := Lib.hid hup
                    clear hup
                    by_cases hle : x ≤ q
                    · have hle2 : (x : Int) ≤ (q : Int) := by omega
                      have hxr : x < d'.size := in_row (lo := lo) HDS.out hle hq h2
                      have hix : (0 : Int) ≤ (x : Int) ∧ (x : Int) < (d.size : Int) := cast_in (HDS.out ▸ hxr)
                      have hwx : IntKind.i64.wrap ((x : Int) + 1) = ((x + 1 : Nat) : Int) := by rw [IntKind.wrap_i64]; omega
                      have c0 := hA2.cell (j := lo) (HDS.out ▸ HL1.out)
                      have c1 := hA2.cell (j := x) hxr
                      have HA2 := Lib.hid hA2
                      have HK2 := Lib.hid hK2
                      clear hA2 hK2 hxr
                      go_wp2_with fail
                      go_big_quiet ((go_at_call 72; exact Calls.quiet_of_same (less_any _ _ _)))
                      cases hL : ltInt d'[x]! d'[lo]! with
                      | false =>
                        go_wp2_with fail
                        go_meet
                        exact ⟨x, rfl, hx1, hx2, by rw [← HUP.out, up_stop (p := fun z => ltInt z d'[lo]!) (.inr hL)], HA2.out.drewN nq, HK2.out.trans (Sq.Kept.drewN _ _ _)⟩
                      | true =>
                        go_wp2_with fail
                        go_roundw
                        case rel => exact ⟨x + 1, by omega, by omega, by first | rfl | (simp; done) | go_num, by rw [← HUP.out]; exact (up_go hle hL).symm, HA2.out.drewN nq, HK2.out.trans (Sq.Kept.drewN _ _ _)⟩
                        case measure => simp [intOf]; omega
                    · have hle2 : ¬ (x : Int) ≤ (q : Int) := by omega
                      have HA2 := Lib.hid hA2
                      have HK2 := Lib.hid hK2
                      clear hA2 hK2
                      go_wp2_with fail
                      go_big_quiet (fail)
                      go_wp2_with fail
                      go_meet
                      exact ⟨x, rfl, hx1, hx2, by rw [← HUP.out, up_stop (.inl hle)], HA2.out.drewN nq, HK2.out.trans (Sq.Kept.drewN _ _ _)⟩
                case rest =>
                  obtain ⟨x, rfl, hx1, hx2, hxe, hA2, hK2⟩ := hcut
                  have HXE := Lib.hid hxe
                  clear hxe hA' hK
                  go_upto_block 8 with fail
                  go_cut [11] from 115 to 132 (fun u wx => ∃ y : Nat, u = .int .i64 (y : Int) ∧ x ≤ y + 1 ∧ y ≤ q ∧ y = scanDown (fun z => !ltInt z d'[lo]!) d' x q ∧ Ar wx b d' rest ∧ Sq.Kept (fun k => k ≠ b) w wx)
                  case first =>
                    go_wp2_with fail
                    go_loopw [11] (fun i wr => ∃ y : Nat, x ≤ y + 1 ∧ y ≤ q ∧ i = .int .i64 (y : Int) ∧ scanDown (fun z => !ltInt z d'[lo]!) d' x y = scanDown (fun z => !ltInt z d'[lo]!) d' x q ∧ Ar wr b d' rest ∧ Sq.Kept (fun k => k ≠ b) w wr) (fun i _ => (intOf i).toNat)
                    case atStart => exact ⟨q, hx2, Nat.le_refl _, rfl, rfl, hA2, hK2⟩
                    case round =>
                      obtain ⟨y, hy1, hy2, rfl, hdn, hA2, hK2⟩ := hrel
                      have HDN := Lib.hid hdn
                      clear hdn
                      by_cases hle : x ≤ y
                      · have hle2 : (x : Int) ≤ (y : Int) := by omega
                        have hyr : y < d'.size := in_row (lo := lo) HDS.out hy2 hq h2
                        have hiy : (0 : Int) ≤ (y : Int) ∧ (y : Int) < (d.size : Int) := cast_in (HDS.out ▸ hyr)
                        obtain ⟨y2, hy3⟩ := named (y - 1)
                        have hwy : IntKind.i64.wrap ((y : Int) - 1) = (y2 : Int) := by rw [IntKind.wrap_i64]; omega
                        have c0 := hA2.cell (j := lo) (HDS.out ▸ HL1.out)
                        have c1 := hA2.cell (j := y) hyr
                        have HA2 := Lib.hid hA2
                        have HK2 := Lib.hid hK2
                        clear hA2 hK2 hyr
                        go_wp2_with fail
                        go_big_quiet ((go_at_call 72; exact Calls.quiet_of_same (less_any _ _ _)))
                        cases hL : ltInt d'[y]! d'[lo]! with
                        | true =>
                          go_wp2_with fail
                          go_meet
                          exact ⟨y, rfl, hy1, hy2, by rw [← HDN.out, down_stop (.inr (by simp [hL]))], HA2.out.drewN nq, HK2.out.trans (Sq.Kept.drewN _ _ _)⟩
                        | false =>
                          go_wp2_with fail
                          go_roundw
                          case rel => exact ⟨y2, by omega, by omega, by first | rfl | (simp; done) | go_num, by rw [← HDN.out, show y2 = y - 1 by omega]; exact (down_go hle (by omega) (by simp [hL])).symm, HA2.out.drewN nq, HK2.out.trans (Sq.Kept.drewN _ _ _)⟩
                          case measure => simp [intOf]; omega
                      · have hle2 : ¬ (x : Int) ≤ (y : Int) := by omega
                        have HA2 := Lib.hid hA2
                        have HK2 := Lib.hid hK2
                        clear hA2 hK2
                        go_wp2_with fail
                        go_big_quiet (fail)
                        go_wp2_with fail
                        go_meet
                        exact ⟨y, rfl, hy1, hy2, by rw [← HDN.out, down_stop (.inl hle)], HA2.out.drewN nq, HK2.out.trans (Sq.Kept.drewN _ _ _)⟩
                  case rest =>
                    obtain ⟨y, rfl, hy1, hy2, hye, hA3, hK3⟩ := hcut
                    have HYE := Lib.hid hye
                    clear hye hA2 hK2
                    by_cases hgt : y < x
                    · have hgt2 : (y : Int) < (x : Int) := by omega
                      have hres : R2 = (y, d') := by
                        have h := HR.out
                        rw [← HXE.out, ← HYE.out, if_pos hgt] at h
                        exact h.symm
                      have HA3 := Lib.hid hA3
                      have HK3 := Lib.hid hK3
                      have HRS2 := Lib.hid hres
                      clear hA3 hK3 hres
                      go_wp2_with fail
                      go_meet
                      exact ⟨y, d', rfl, by omega, HDS.out, HRS2.out, HA3.out, HK3.out⟩
                    · have hgt2 : ¬ (y : Int) < (x : Int) := by omega
                      have hlt : x < y := scans_apart d' lo p q (by omega) hpq HXE.out HYE.out hgt
                      have hxr : x < d'.size := in_row (lo := lo) HDS.out (by omega : x ≤ y) (by omega : y < hi) h2
                      have hyr : y < d'.size := in_row (lo := lo) HDS.out (Nat.le_refl y) (by omega : y < hi) h2
                      have hix : (0 : Int) ≤ (x : Int) ∧ (x : Int) < (d.size : Int) := cast_in (HDS.out ▸ hxr)
                      have hiy : (0 : Int) ≤ (y : Int) ∧ (y : Int) < (d.size : Int) := cast_in (HDS.out ▸ hyr)
                      have hwx : IntKind.i64.wrap ((x : Int) + 1) = ((x + 1 : Nat) : Int) := by rw [IntKind.wrap_i64]; omega
                      obtain ⟨y2, hy3⟩ := named (y - 1)
                      have hwy : IntKind.i64.wrap ((y : Int) - 1) = (y2 : Int) := by rw [IntKind.wrap_i64]; omega
                      have hres : partLoop ltInt lo (x + 1) (y - 1) (swp d' x y) = R2 := by
                        have h := HR.out
                        rw [← HXE.out, ← HYE.out, if_neg (by omega)] at h
                        exact h
                      have HRS2 := Lib.hid hres
                      have c0 := hA3.cell (j := x) hxr
                      have c1 := hA3.cell (j := y) hyr
                      have f0 := hA3.frozen x
                      have f1 := hA3.frozen y
                      have c2 := (hA3.set (i := x) hxr d'[y]!).cell (j := y) (by rw [Array.size_setIfInBounds]; exact hyr)
                      have f2 := (hA3.set (i := x) hxr d'[y]!).frozen y
                      have HA3 := Lib.hid hA3
                      have HK3 := Lib.hid hK3
                      have HIR := Lib.hid hxr
                      have HJR := Lib.hid hyr
                      clear hA3 hK3 hres hxr hyr
                      go_upto_region 18 with fail
                      go_cut [] from 135 to 149 (fun wy => Ar wy b (swp d' x y) rest ∧ Sq.Kept (fun k => k ≠ b) w wy)
                      case first =>
                        go_region
                        all_goals (try go_wp2_with fail)
                        all_goals go_meet
                        all_goals exact ⟨(HA3.out.drewN 1).swap HIR.out HJR.out, (HK3.out.trans (Sq.Kept.drewN _ _ 1)).trans (kept_swap _ _)⟩
                      case rest =>
                        obtain ⟨hA4, hK4⟩ := hcut
                        have HA4 := Lib.hid hA4
                        have HK4 := Lib.hid hK4
                        clear c0 c1 f0 f1 c2 f2 hA4 hK4
                        go_wp2_with fail
                        go_roundw
                        case rel => exact ⟨x + 1, y2, swp d' x y, by omega, by omega, by omega, rfl, rfl, by rw [swp_size]; exact HDS.out, by rw [show y2 = y - 1 by omega]; exact HRS2.out, HA4.out, HK4.out⟩
                        case measure => simp [intOf]; omega
            case rest =>
              obtain ⟨y, d', rfl, hyh, hds, hRy, hA3, hK3⟩ := hcut
              have hres : RES = (y, false, swp d' y lo) := by rw [HRS.out, hRy]
              have HRS2 := Lib.hid hres
              have hyd : y < d.size := by omega
              have hyr : y < d'.size := by rw [hds]; exact hyd
              have hlr : lo < d'.size := by rw [hds]; exact HL1.out
              have hiy : (0 : Int) ≤ (y : Int) ∧ (y : Int) < (d.size : Int) := cast_in hyd
              have c0 := hA3.cell (j := y) hyr
              have c1 := hA3.cell (j := lo) hlr
              have f0 := hA3.frozen y
              have f1 := hA3.frozen lo
              have c2 := (hA3.set (i := y) hyr d'[lo]!).cell (j := lo) (by rw [Array.size_setIfInBounds]; exact hlr)
              have f2 := (hA3.set (i := y) hyr d'[lo]!).frozen lo
              have HA3 := Lib.hid hA3
              have HK3 := Lib.hid hK3
              have HIR := Lib.hid hyr
              have HJR := Lib.hid hlr
              clear hA4 hK4 hA3 hK3 hres hyr hlr hyd hds hRy
              go_upto_region 21 with fail
              go_cut [] from 153 to 167 (fun wy => Ar wy b (swp d' y lo) rest ∧ Sq.Kept (fun k => k ≠ b) w wy)
              case first =>
                go_region
                all_goals (try go_wp2_with fail)
                all_goals go_meet
                all_goals exact ⟨(HA3.out.drewN 1).swap HIR.out HJR.out, (HK3.out.trans (Sq.Kept.drewN _ _ 1)).trans (kept_swap _ _)⟩
              case rest =>
                obtain ⟨hA5, hK5⟩ := hcut
                have HA5 := Lib.hid hA5
                have HK5 := Lib.hid hK5
                clear c0 c1 f0 f1 c2 f2 hA5 hK5
                go_wp2_with fail
                go_ret2
                rw [HRS2.out]
                exact ⟨rfl, HA5.out, HK5.out⟩
end So6
end Go.Proofs.Ythcllaombabpbaa

/-
  partialInsertionSort over a row of uint64.
-/
namespace Go.Proofs.Ythcllaombabpbaa
open Go.RowKit Go.Sort
set_option linter.unusedSimpArgs false
set_option linter.unusedVariables false
namespace So6
theorem scn_go {d : Array Int} {b i : Nat} (h : i < b) (hl : ltInt d[i]! d[i - 1]! = false) : scanSorted ltInt d b i = scanSorted ltInt d b (i + 1) := by
  rw [scanSorted]; simp [h, hl]
theorem scn_stop {d : Array Int} {b i : Nat} (h : ¬ i < b ∨ ltInt d[i]! d[i - 1]! = true) : scanSorted ltInt d b i = i := by
  rw [scanSorted]
  rcases h with h | h
  · simp [h]
  · simp [h]
theorem sdn_stop {d : Array Int} {j : Nat} (h : j = 0 ∨ ltInt d[j]! d[j - 1]! = false) : shiftDown ltInt j d = d := by
  cases j with
  | zero => rfl
  | succ k =>
    rw [Nat.add_sub_cancel] at h
    rw [shiftDown, if_pos]
    rcases h with h | h
    · omega
    · simp [h]
theorem sdn_go {d : Array Int} {j : Nat} (h : 0 < j) (hl : ltInt d[j]! d[j - 1]! = true) : shiftDown ltInt j d = shiftDown ltInt (j - 1) (swp d j (j - 1)) := by
  obtain ⟨k, rfl⟩ : ∃ k, j = k + 1 := ⟨j - 1, by omega⟩
  rw [Nat.add_sub_cancel] at hl ⊢
  rw [shiftDown, if_neg (by simp [hl])]
theorem su_stop {d : Array Int} {b j : Nat} (h : ¬ j < b ∨ ltInt d[j]! d[j - 1]! = false) : shiftUp ltInt b j d = d := by
  rw [shiftUp]
  rcases h with h | h
  · rw [if_neg h]
  · simp [h]
theorem su_go {d : Array Int} {b j : Nat} (h : j < b) (hl : ltInt d[j]! d[j - 1]! = true) : shiftUp ltInt b j d = shiftUp ltInt b (j + 1) (swp d j (j - 1)) := by
  rw [shiftUp, if_pos h, if_neg (by simp [hl])]

set_option maxRecDepth 100000 in
set_option maxHeartbeats 8000000 in
theorem pis_any (b cap lo hi : Nat) (d : Array Int) (rest : List Value) (w : World) (hA : Ar w b d rest) (h1 : lo < hi) (h2 : hi ≤ d.size) (hsz : d.size ≤ 1099511627776) :
    Calls Try.prog 89 #[.slice (some ⟨b, 0, none⟩) d.size cap, .int .i64 (lo : Int), .int .i64 (hi : Int)] w fun e w' =>
      e = .returned (.bool (partialInsertionSort ltInt d lo hi).2) ∧ Ar w' b (partialInsertionSort ltInt d lo hi).1 rest ∧ Sq.Kept (fun k => k ≠ b) w w' := by
  obtain ⟨RES, hRES⟩ : ∃ RES, RES = partialInsertionSort ltInt d lo hi := ⟨_, rfl⟩
  rw [← hRES]
  have hR0 : partialIns ltInt lo hi 5 (lo + 1) d = RES := by rw [hRES]; rfl
  clear hRES
  obtain ⟨I0, hI0⟩ := named (lo + 1)
  have hw1 : IntKind.i64.wrap ((lo : Int) + 1) = (I0 : Int) := by rw [IntKind.wrap_i64]; omega
  obtain ⟨LEN, hLEN⟩ := named (hi - lo)
  have hw2 : IntKind.i64.wrap ((hi : Int) - (lo : Int)) = (LEN : Int) := by rw [IntKind.wrap_i64]; omega
  rw [show lo + 1 = I0 by omega] at hR0
  have HR0 := Lib.hid hR0
  clear hR0
  go_enter Try.func89, Try.ntmps89
  go_wp2_with fail
  go_loopw [7, 8] (fun i j wr => ∃ (p n : Nat) (d' : Array Int), lo < p ∧ p ≤ hi ∧ n ≤ 5 ∧ i = .int .i64 (p : Int) ∧ j = .int .i64 (n : Int) ∧ d'.size = d.size ∧ partialIns ltInt lo hi (5 - n) p d' = RES ∧ Ar wr b d' rest ∧ Sq.Kept (fun k => k ≠ b) w wr) (fun _ j _ => 6 - (intOf j).toNat)
  case atStart => exact ⟨I0, 0, d, by omega, by omega, by omega, rfl, rfl, rfl, HR0.out, hA, Sq.Kept.refl _ _⟩
  case round =>
    obtain ⟨p, n, d', hp, hph, hn, rfl, rfl, hds, hR, hA', hK⟩ := hrel
    obtain ⟨wo, rfl⟩ : ∃ wo : World, wo = wr := ⟨_, rfl⟩
    have HDS := Lib.hid hds
    clear hds
    by_cases hn5 : n < 5
    · have hn6 : (n : Int) < 5 := by omega
      obtain ⟨s, hs⟩ : ∃ s, 5 - n = s + 1 := ⟨4 - n, by omega⟩
      rw [hs, partialIns_succ] at hR
      have HR := Lib.hid hR
      have hs2 : s = 4 - n := by omega
      clear hR hs
      go_upto_block 1 with fail
      go_cut [7, 9, 10] from 17 to 133 (fun u _ _ wx => ∃ (x : Nat) (d2 : Array Int), u = .int .i64 (x : Int) ∧ lo < x ∧ x ≤ hi ∧ d2.size = d.size ∧ partialIns ltInt lo hi s x d2 = RES ∧ Ar wx b d2 rest ∧ Sq.Kept (fun k => k ≠ b) w wx)
      case first =>
        go_upto_block 2 with fail
        go_cut [7] from 17 to 35 (fun u wx => ∃ x : Nat, u = .int .i64 (x : Int) ∧ p ≤ x ∧ x ≤ hi ∧ x = scanSorted ltInt d' hi p ∧ Ar wx b d' rest ∧ Sq.Kept (fun k => k ≠ b) w wx)
        case first =>
          go_wp2_with fail
          go_loopw [7] (fun i wr => ∃ x : Nat, p ≤ x ∧ x ≤ hi ∧ i = .int .i64 (x : Int) ∧ scanSorted ltInt d' hi x = scanSorted ltInt d' hi p ∧ Ar wr b d' rest ∧ Sq.Kept (fun k => k ≠ b) w wr) (fun i _ => hi + 1 - (intOf i).toNat)
          case atStart => exact ⟨p, Nat.le_refl _, hph, rfl, rfl, hA', hK⟩
          case round =>
            obtain ⟨x, hx1, hx2, rfl, hup, hA2, hK2⟩ := hrel
            have HUP := Lib.hid hup
            clear hup
            by_cases hle : x < hi
            · have hle2 : (x : Int) < (hi : Int) := by omega
              have hxr : x < d'.size := by have := HDS.out; omega
              have hix : (0 : Int) ≤ (x : Int) ∧ (x : Int) < (d.size : Int) := by omega
              obtain ⟨x1, hx3⟩ := named (x - 1)
              have hxr1 : x1 < d'.size := by omega
              have hix1 : (0 : Int) ≤ (x1 : Int) ∧ (x1 : Int) < (d.size : Int) := by omega
              have hwx : IntKind.i64.wrap ((x : Int) + 1) = ((x + 1 : Nat) : Int) := by rw [IntKind.wrap_i64]; omega
              have hwx1 : IntKind.i64.wrap ((x : Int) - 1) = (x1 : Int) := by rw [IntKind.wrap_i64]; omega
              have c0 := hA2.cell (j := x) hxr
              have c1 := hA2.cell (j := x1) hxr1
              have HA2 := Lib.hid hA2
              have HK2 := Lib.hid hK2
              clear hA2 hK2 hxr hxr1
              go_wp2_with fail
              go_big_quiet ((go_at_call 72; exact Calls.quiet_of_same (less_any _ _ _)))
              cases hL : ltInt d'[x]! d'[x1]! with
              | true =>
                go_wp2_with fail
                go_meet
                exact ⟨x, rfl, hx1, hx2, by rw [← HUP.out, scn_stop (.inr (by rw [show x - 1 = x1 by omega]; exact hL))], HA2.out.drewN nq, HK2.out.trans (Sq.Kept.drewN _ _ _)⟩
              | false =>
                go_wp2_with fail
                go_roundw
                case rel => exact ⟨x + 1, by omega, by omega, by first | rfl | (simp; done) | go_num, by rw [← HUP.out]; exact (scn_go hle (by rw [show x - 1 = x1 by omega]; exact hL)).symm, HA2.out.drewN nq, HK2.out.trans (Sq.Kept.drewN _ _ _)⟩
                case measure => simp [intOf]; omega
            · have hle2 : ¬ (x : Int) < (hi : Int) := by omega
              have HA2 := Lib.hid hA2
              have HK2 := Lib.hid hK2
              clear hA2 hK2
              go_wp2_with fail
              go_big_quiet (fail)
              go_wp2_with fail
              go_meet
              exact ⟨x, rfl, hx1, hx2, by rw [← HUP.out, scn_stop (.inl hle)], HA2.out.drewN nq, HK2.out.trans (Sq.Kept.drewN _ _ _)⟩
        case rest =>
          obtain ⟨x, rfl, hx1, hx2, hxe, hA2, hK2⟩ := hcut
          rw [← hxe] at HR
          have HXE := Lib.hid hxe
          clear hxe hA' hK
          by_cases hxh : x = hi
          · have hxh2 : ((x : Int) == (hi : Int)) = true := by simp [hxh]
            have hres : RES = (d', true) := by rw [← HR.out, if_pos hxh]
            have HA2 := Lib.hid hA2
            have HK2 := Lib.hid hK2
            have HRS := Lib.hid hres
            clear hA2 hK2 hres hxh
            go_wp2_with fail
            go_ret
            rw [HRS.out]
            exact ⟨rfl, HA2.out, HK2.out⟩
          · have hxh2 : ((x : Int) == (hi : Int)) = false := by simp; omega
            have hr1 := HR.out
            rw [if_neg hxh] at hr1
            by_cases h50 : hi - lo < 50
            · have hl50 : (LEN : Int) < 50 := by omega
              have hres : RES = (d', false) := by rw [← hr1, if_pos h50]
              have HA2 := Lib.hid hA2
              have HK2 := Lib.hid hK2
              have HRS := Lib.hid hres
              clear hA2 hK2 hres hxh h50 hr1
              go_wp2_with fail
              go_ret
              rw [HRS.out]
              exact ⟨rfl, HA2.out, HK2.out⟩
            · have hl50 : ¬ (LEN : Int) < 50 := by omega
              rw [if_neg h50] at hr1
              obtain ⟨x1, hx3⟩ := named (x - 1)
              rw [show x - 1 = x1 by omega] at hr1
              obtain ⟨D3, hD3⟩ : ∃ D3, D3 = swp d' x x1 := ⟨_, rfl⟩
              rw [← hD3] at hr1
              have hs3 : D3.size = d.size := by rw [hD3, swp_size]; exact HDS.out
              have HS3 := Lib.hid hs3
              have HD3 := Lib.hid hD3
              have HR1 := Lib.hid hr1
              have hix : (0 : Int) ≤ (x : Int) ∧ (x : Int) < (d.size : Int) := by omega
              have hix1 : (0 : Int) ≤ (x1 : Int) ∧ (x1 : Int) < (d.size : Int) := by omega
              have hwx1 : IntKind.i64.wrap ((x : Int) - 1) = (x1 : Int) := by rw [IntKind.wrap_i64]; omega
              obtain ⟨M, hM⟩ := named (x - lo)
              have hwM : IntKind.i64.wrap ((x : Int) - (lo : Int)) = (M : Int) := by rw [IntKind.wrap_i64]; omega
              obtain ⟨M2, hM2⟩ := named (hi - x)
              have hwM2 : IntKind.i64.wrap ((hi : Int) - (x : Int)) = (M2 : Int) := by rw [IntKind.wrap_i64]; omega
              have hxr : x < d'.size := by have := HDS.out; omega
              have hxr1 : x1 < d'.size := by omega
              have c0 := hA2.cell (j := x) hxr
              have c1 := hA2.cell (j := x1) hxr1
              have f0 := hA2.frozen x
              have f1 := hA2.frozen x1
              have HA2 := Lib.hid hA2
              have HK2 := Lib.hid hK2
              have HIR := Lib.hid hxr
              have HJR := Lib.hid hxr1
              clear hA2 hK2 hxr hxr1 hD3 hr1 hs3 hxh h50
              go_upto_region 11 with fail
              go_cut [] from 42 to 58 (fun wy => Ar wy b D3 rest ∧ Sq.Kept (fun k => k ≠ b) w wy)
              case first =>
                go_region
                all_goals (try go_wp2_with fail)
                all_goals go_meet
                all_goals exact ⟨by rw [HD3.out]; exact (HA2.out.drewN 1).swap HIR.out HJR.out, (HK2.out.trans (Sq.Kept.drewN _ _ 1)).trans (kept_swap _ _)⟩
              case rest =>
                obtain ⟨hA3, hK3⟩ := hcut
                clear c0 c1 f0 f1
                obtain ⟨F, hF⟩ : ∃ F, F = fixDown ltInt lo x D3 := ⟨_, rfl⟩
                have hr1 := HR1.out
                rw [← hF] at hr1
                unfold fixDown at hF
                rw [show x - 1 = x1 by omega] at hF
                have HF := Lib.hid hF
                have HR2 := Lib.hid hr1
                clear hF hr1
                go_upto_if 61 with fail
                go_cut [9] from 61 to 95 (fun _ wy => F.size = d.size ∧ Ar wy b F rest ∧ Sq.Kept (fun k => k ≠ b) w wy)
                case first =>
                  by_cases hm : 2 ≤ M
                  · have hm2 : (2 : Int) ≤ (M : Int) := by omega
                    have hf2 : shiftDown ltInt x1 D3 = F := by rw [HF.out, if_pos (by omega)]
                    have HF2 := Lib.hid hf2
                    clear hf2
                    go_wp2_with fail
                    go_loopw [9] (fun i wr => ∃ (j : Nat) (d2 : Array Int), j < hi ∧ i = .int .i64 (j : Int) ∧ d2.size = d.size ∧ shiftDown ltInt j d2 = F ∧ Ar wr b d2 rest ∧ Sq.Kept (fun k => k ≠ b) w wr) (fun i _ => (intOf i).toNat)
                    case atStart => exact ⟨x1, D3, by omega, rfl, HS3.out, HF2.out, hA3, hK3⟩
                    case round =>
                      obtain ⟨j, d2, hj1, rfl, hd2, hin, hA2, hK2⟩ := hrel
                      have HD2 := Lib.hid hd2
                      have HIN := Lib.hid hin
                      clear hin hd2 hA3 hK3
                      by_cases hj : 1 ≤ j
                      · have hj2 : (1 : Int) ≤ (j : Int) := by omega
                        obtain ⟨j1, hj3⟩ := named (j - 1)
                        have hw5 : IntKind.i64.wrap ((j : Int) - 1) = (j1 : Int) := by rw [IntKind.wrap_i64]; omega
                        have hi3 : (0 : Int) ≤ (j : Int) ∧ (j : Int) < (d.size : Int) := by omega
                        have hi4 : (0 : Int) ≤ (j1 : Int) ∧ (j1 : Int) < (d.size : Int) := by omega
                        have hir : j < d2.size := by have := HD2.out; omega
                        have hjr : j1 < d2.size := by omega
                        have c1 := hA2.cell (j := j) hir
                        have c2 := hA2.cell (j := j1) hjr
                        have HIR2 := Lib.hid hir
                        have HJR2 := Lib.hid hjr
                        have HA4 := Lib.hid hA2
                        have HK4 := Lib.hid hK2
                        clear hA2 hK2 hir hjr
                        go_wp2_with fail
                        go_big_quiet ((go_at_call 72; exact Calls.quiet_of_same (less_any _ _ _)))
                        have hAq := HA4.out.drewN nq
                        have hKq : Sq.Kept (fun k => k ≠ b) w (wr.drewN nq) := HK4.out.trans (Sq.Kept.drewN _ _ _)
                        have c1 := hAq.cell (j := j) HIR2.out
                        have c2 := hAq.cell (j := j1) HJR2.out
                        have f1 := hAq.frozen j
                        have f2 := hAq.frozen j1
                        clear HA4 HK4
                        generalize wr.drewN nq = wq at *
                        have HAQ := Lib.hid hAq
                        have HKQ := Lib.hid hKq
                        clear hAq hKq
                        cases hL : ltInt d2[j]! d2[j1]! with
                        | true =>
                          go_upto_region 17 with fail
                          go_region
                          all_goals (try go_wp2_with fail)
                          all_goals go_roundw
                          all_goals first
                            | (simp [intOf]; omega; done)
                            | exact ⟨j1, swp d2 j j1, by omega, by first | rfl | (simp; done) | go_num, by rw [swp_size]; exact HD2.out, by rw [← HIN.out, sdn_go (j := j) (by omega) (by rw [show j - 1 = j1 by omega]; exact hL), show j - 1 = j1 by omega], (HAQ.out.drewN 1).swap HIR2.out HJR2.out, HKQ.out.trans ((Sq.Kept.drewN _ _ 1).trans (kept_swap _ _))⟩
                        | false =>
                          have hfe : F = d2 := by rw [← HIN.out, sdn_stop (.inr (by rw [show j - 1 = j1 by omega]; exact hL))]
                          have HFE := Lib.hid hfe
                          clear hfe
                          go_wp2_with fail
                          go_meet
                          rw [HFE.out]
                          exact ⟨HD2.out, HAQ.out, HKQ.out⟩
                      · have hj2 : ¬ (1 : Int) ≤ (j : Int) := by omega
                        have hfe : F = d2 := by rw [← HIN.out, sdn_stop (.inl (by omega))]
                        have HFE := Lib.hid hfe
                        have HA4 := Lib.hid hA2
                        have HK4 := Lib.hid hK2
                        clear hA2 hK2 hfe
                        go_wp2_with fail
                        go_meet
                        rw [HFE.out]
                        exact ⟨HD2.out, HA4.out, HK4.out⟩
                  · have hm2 : ¬ (2 : Int) ≤ (M : Int) := by omega
                    have hf2 : F = D3 := by rw [HF.out, if_neg (by omega)]
                    have HF2 := Lib.hid hf2
                    have HA4 := Lib.hid hA3
                    have HK4 := Lib.hid hK3
                    clear hA3 hK3 hf2
                    go_wp2_with fail
                    go_meet
                    rw [HF2.out]
                    exact ⟨HS3.out, HA4.out, HK4.out⟩
                case rest =>
                  obtain ⟨hsF, hA4, hK4⟩ := hcut
                  clear hA3 hK3 HF
                  have HSF := Lib.hid hsF
                  obtain ⟨G, hG⟩ : ∃ G, G = fixUp ltInt hi x F := ⟨_, rfl⟩
                  have hr1 := HR2.out
                  rw [← hG] at hr1
                  unfold fixUp at hG
                  have HG := Lib.hid hG
                  have HR3 := Lib.hid hr1
                  clear hG hr1 hsF
                  have hwx2 : IntKind.i64.wrap ((x : Int) + 1) = ((x + 1 : Nat) : Int) := by rw [IntKind.wrap_i64]; omega
                  by_cases hm : 2 ≤ M2
                  · have hm2 : (2 : Int) ≤ (M2 : Int) := by omega
                    have hf2 : shiftUp ltInt hi (x + 1) F = G := by rw [HG.out, if_pos (by omega)]
                    have HF2 := Lib.hid hf2
                    clear hf2
                    go_wp2_with fail
                    go_loopw [10] (fun i wr => ∃ (j : Nat) (d2 : Array Int), 1 ≤ j ∧ j ≤ hi ∧ i = .int .i64 (j : Int) ∧ d2.size = d.size ∧ shiftUp ltInt hi j d2 = G ∧ Ar wr b d2 rest ∧ Sq.Kept (fun k => k ≠ b) w wr) (fun i _ => hi + 1 - (intOf i).toNat)
                    case atStart => exact ⟨x + 1, F, by omega, by omega, rfl, HSF.out, HF2.out, hA4, hK4⟩
                    case round =>
                      obtain ⟨j, d2, hj0, hj1, rfl, hd2, hin, hA2, hK2⟩ := hrel
                      have HD2 := Lib.hid hd2
                      have HIN := Lib.hid hin
                      clear hin hd2 hA4 hK4
                      by_cases hj : j < hi
                      · have hj2 : (j : Int) < (hi : Int) := by omega
                        obtain ⟨j1, hj3⟩ := named (j - 1)
                        have hw5 : IntKind.i64.wrap ((j : Int) - 1) = (j1 : Int) := by rw [IntKind.wrap_i64]; omega
                        have hw6 : IntKind.i64.wrap ((j : Int) + 1) = ((j + 1 : Nat) : Int) := by rw [IntKind.wrap_i64]; omega
                        have hi3 : (0 : Int) ≤ (j : Int) ∧ (j : Int) < (d.size : Int) := by omega
                        have hi4 : (0 : Int) ≤ (j1 : Int) ∧ (j1 : Int) < (d.size : Int) := by omega
                        have hir : j < d2.size := by have := HD2.out; omega
                        have hjr : j1 < d2.size := by omega
                        have c1 := hA2.cell (j := j) hir
                        have c2 := hA2.cell (j := j1) hjr
                        have HIR2 := Lib.hid hir
                        have HJR2 := Lib.hid hjr
                        have HA4 := Lib.hid hA2
                        have HK4 := Lib.hid hK2
                        clear hA2 hK2 hir hjr
                        go_wp2_with fail
                        go_big_quiet ((go_at_call 72; exact Calls.quiet_of_same (less_any _ _ _)))
                        have hAq := HA4.out.drewN nq
                        have hKq : Sq.Kept (fun k => k ≠ b) w (wr.drewN nq) := HK4.out.trans (Sq.Kept.drewN _ _ _)
                        have c1 := hAq.cell (j := j) HIR2.out
                        have c2 := hAq.cell (j := j1) HJR2.out
                        have f1 := hAq.frozen j
                        have f2 := hAq.frozen j1
                        clear HA4 HK4
                        generalize wr.drewN nq = wq at *
                        have HAQ := Lib.hid hAq
                        have HKQ := Lib.hid hKq
                        clear hAq hKq
                        cases hL : ltInt d2[j]! d2[j1]! with
                        | true =>
                          go_upto_region 23 with fail
                          go_region
                          all_goals (try go_wp2_with fail)
                          all_goals go_roundw
                          all_goals first
                            | (simp [intOf]; omega; done)
                            | exact ⟨j + 1, swp d2 j j1, by omega, by omega, by first | rfl | (simp; done) | go_num, by rw [swp_size]; exact HD2.out, by rw [← HIN.out, su_go hj (by rw [show j - 1 = j1 by omega]; exact hL), show j - 1 = j1 by omega], (HAQ.out.drewN 1).swap HIR2.out HJR2.out, HKQ.out.trans ((Sq.Kept.drewN _ _ 1).trans (kept_swap _ _))⟩
                        | false =>
                          have hfe : G = d2 := by rw [← HIN.out, su_stop (.inr (by rw [show j - 1 = j1 by omega]; exact hL))]
                          have HFE := Lib.hid hfe
                          clear hfe
                          go_wp2_with fail
                          go_meet
                          exact ⟨x, G, rfl, by omega, by omega, by rw [HFE.out]; exact HD2.out, HR3.out, by rw [HFE.out]; exact HAQ.out, HKQ.out⟩
                      · have hj2 : ¬ (j : Int) < (hi : Int) := by omega
                        have hfe : G = d2 := by rw [← HIN.out, su_stop (.inl hj)]
                        have HFE := Lib.hid hfe
                        have HA4 := Lib.hid hA2
                        have HK4 := Lib.hid hK2
                        clear hA2 hK2 hfe
                        go_wp2_with fail
                        go_meet
                        exact ⟨x, G, rfl, by omega, by omega, by rw [HFE.out]; exact HD2.out, HR3.out, by rw [HFE.out]; exact HA4.out, HK4.out⟩
                  · have hm2 : ¬ (2 : Int) ≤ (M2 : Int) := by omega
                    have hf2 : G = F := by rw [HG.out, if_neg (by omega)]
                    have HF2 := Lib.hid hf2
                    have HA5 := Lib.hid hA4
                    have HK5 := Lib.hid hK4
                    clear hA4 hK4 hf2
                    go_wp2_with fail
                    go_meet
                    exact ⟨x, G, rfl, by omega, by omega, by rw [HF2.out]; exact HSF.out, HR3.out, by rw [HF2.out]; exact HA5.out, HK5.out⟩
      case rest =>
        obtain ⟨x, d2, rfl, hx1, hx2, hd2, hpi, hA3, hK3⟩ := hcut
        have hwn : IntKind.i64.wrap ((n : Int) + 1) = ((n + 1 : Nat) : Int) := by rw [IntKind.wrap_i64]; omega
        have HD2 := Lib.hid hd2
        have HPI := Lib.hid hpi
        clear hd2 hpi hA' hK
        go_wp2_with fail
        go_roundw
        case rel => exact ⟨x, n + 1, d2, hx1, hx2, by omega, by first | rfl | (simp; done) | go_num, by first | rfl | (simp; done) | go_num, HD2.out, by rw [show 5 - (n + 1) = s by omega]; exact HPI.out, hA3, hK3⟩
        case measure => simp [intOf]; omega
    · have hn6 : ¬ (n : Int) < 5 := by omega
      have hres : RES = (d', false) := by rw [← hR, show 5 - n = 0 by omega]; rfl
      have HA2 := Lib.hid hA'
      have HK2 := Lib.hid hK
      have HRS := Lib.hid hres
      clear hA' hK hres hR
      go_wp2_with fail
      go_ret
      rw [HRS.out]
      exact ⟨rfl, HA2.out, HK2.out⟩
end So6
end Go.Proofs.Ythcllaombabpbaa

/-
  pdqsort over a row of uint64.
-/
namespace Go.Proofs.Ythcllaombabpbaa
open Go.RowKit Go.Sort
set_option linter.unusedSimpArgs false
set_option linter.unusedVariables false
namespace So6
def Per (n b lo hi : Nat) (d : Array Int) (rest : List Value) (w w' : World) : Prop := ∃ d', d'.size = n ∧ PermIn lo hi d d' ∧ Ar w' b d' rest ∧ Sq.Kept (fun k => k ≠ b) w w'
def Srt (n b lo hi : Nat) (d : Array Int) (rest : List Value) (w w' : World) : Prop := ∃ d', d'.size = n ∧ (PermIn lo hi d d' ∧ SortedIn ltInt lo hi d') ∧ Ar w' b d' rest ∧ Sq.Kept (fun k => k ≠ b) w w'

theorem ins_n (b cap lo hi n : Nat) (d : Array Int) (rest : List Value) (w : World) (hn : d.size = n) (hA : Ar w b d rest) (h1 : lo ≤ hi) (h2 : hi ≤ n) (hsz : n ≤ 1099511627776) :
    Calls Try.prog 84 #[.slice (some ⟨b, 0, none⟩) n cap, .int .i64 (lo : Int), .int .i64 (hi : Int)] w fun e w' => e = .returned (.tuple #[]) ∧ Srt n b lo hi d rest w w' := by
  subst hn
  refine (ins_any b cap lo hi d rest w hA h1 h2 hsz).mono ?_
  rintro e w' ⟨rfl, h, k⟩
  have hs := insertionSort_holds (lt := ltInt) swo_ltInt d lo hi h1 h2
  exact ⟨rfl, _, hs.1.1, hs, h, k⟩

theorem heap_n (b cap lo hi n : Nat) (d : Array Int) (rest : List Value) (w : World) (hn : d.size = n) (hA : Ar w b d rest) (h1 : lo < hi) (h2 : hi ≤ n) (hsz : n ≤ 1099511627776) :
    Calls Try.prog 85 #[.slice (some ⟨b, 0, none⟩) n cap, .int .i64 (lo : Int), .int .i64 (hi : Int)] w fun e w' => e = .returned (.tuple #[]) ∧ Srt n b lo hi d rest w w' := by
  subst hn
  refine (heap_any b cap lo hi d rest w hA h1 h2 hsz).mono ?_
  rintro e w' ⟨rfl, h, k⟩
  have hs := heapSort_holds (lt := ltInt) swo_ltInt d lo hi (Nat.le_of_lt h1) h2
  exact ⟨rfl, _, hs.1.1, hs, h, k⟩

theorem brk_n (HL : LenOk) (b cap lo hi n : Nat) (d : Array Int) (rest : List Value) (w : World) (hn : d.size = n) (hA : Ar w b d rest) (h1 : lo < hi) (h2 : hi ≤ n) (hsz : n ≤ 1099511627776) :
    Calls Try.prog 86 #[.slice (some ⟨b, 0, none⟩) n cap, .int .i64 (lo : Int), .int .i64 (hi : Int)] w fun e w' => e = .returned (.tuple #[]) ∧ Per n b lo hi d rest w w' := by
  subst hn
  refine (break_any HL b cap lo hi d rest w hA h1 h2 hsz).mono ?_
  rintro e w' ⟨rfl, ⟨d', h, hp⟩, k⟩
  exact ⟨rfl, _, hp.1, hp, h, k⟩

theorem rev_n (b cap lo hi n : Nat) (d : Array Int) (rest : List Value) (w : World) (hn : d.size = n) (hA : Ar w b d rest) (h1 : lo < hi) (h2 : hi ≤ n) (hsz : n ≤ 1099511627776) :
    Calls Try.prog 88 #[.slice (some ⟨b, 0, none⟩) n cap, .int .i64 (lo : Int), .int .i64 (hi : Int)] w fun e w' => e = .returned (.tuple #[]) ∧ Per n b lo hi d rest w w' := by
  subst hn
  refine (rev_any b cap lo hi d rest w hA h1 h2 hsz).mono ?_
  rintro e w' ⟨rfl, ⟨d', h, hp⟩, k⟩
  exact ⟨rfl, _, hp.1, hp, h, k⟩

def Piv (b lo hi : Nat) (d : Array Int) (rest : List Value) (w w' : World) (p : Nat) : Prop := (lo ≤ p ∧ p < hi) ∧ Ar w' b d rest ∧ Sq.Kept (fun k => k ≠ b) w w'

theorem piv_n (b cap lo hi n : Nat) (d : Array Int) (rest : List Value) (w : World) (hn : d.size = n) (hA : Ar w b d rest) (h1 : 12 < hi - lo) (h2 : hi ≤ n) (hsz : n ≤ 1099511627776) :
    Calls Try.prog 87 #[.slice (some ⟨b, 0, none⟩) n cap, .int .i64 (lo : Int), .int .i64 (hi : Int)] w fun e w' => ∃ (p : Nat) (h : Int), e = .returned (.tuple #[.int .i64 (p : Int), .int .i64 h]) ∧ Piv b lo hi d rest w w' p := by
  subst hn
  refine (piv_any b cap lo hi d rest w hA h1 h2 hsz).mono ?_
  rintro e w' ⟨p, h, rfl, hp, hA', k⟩
  exact ⟨p, h, rfl, hp, hA', k.less fun _ _ _ => trivial⟩

def Pis (n b lo hi : Nat) (d : Array Int) (rest : List Value) (w w' : World) (r : Bool) : Prop := ∃ d', d'.size = n ∧ PermIn lo hi d d' ∧ (r = true → SortedIn ltInt lo hi d') ∧ Ar w' b d' rest ∧ Sq.Kept (fun k => k ≠ b) w w'

theorem pis_n (b cap lo hi n : Nat) (d : Array Int) (rest : List Value) (w : World) (hn : d.size = n) (hA : Ar w b d rest) (h1 : lo < hi) (h2 : hi ≤ n) (hB : Below ltInt lo hi d) (hsz : n ≤ 1099511627776) :
    Calls Try.prog 89 #[.slice (some ⟨b, 0, none⟩) n cap, .int .i64 (lo : Int), .int .i64 (hi : Int)] w fun e w' => ∃ r : Bool, e = .returned (.bool r) ∧ Pis n b lo hi d rest w w' r := by
  subst hn
  refine (pis_any b cap lo hi d rest w hA h1 h2 hsz).mono ?_
  rintro e w' ⟨rfl, h, k⟩
  have hs := partialInsertionSort_holds (lt := ltInt) swo_ltInt d lo hi h1 h2 hB
  exact ⟨_, rfl, _, hs.1.1, hs.1, hs.2, h, k⟩

def Peq (n b lo hi : Nat) (d : Array Int) (rest : List Value) (w w' : World) (mid : Nat) : Prop := ∃ d', (lo < mid ∧ mid ≤ hi) ∧ d'.size = n ∧ Below ltInt mid hi d' ∧ (∀ R, PermIn mid hi d' R → SortedIn ltInt mid hi R → PermIn lo hi d R ∧ SortedIn ltInt lo hi R) ∧ Ar w' b d' rest ∧ Sq.Kept (fun k => k ≠ b) w w'

theorem peq_n (b cap lo hi pv n : Nat) (d : Array Int) (rest : List Value) (w : World) (hn : d.size = n) (hA : Ar w b d rest) (h1 : lo ≤ pv ∧ pv < hi) (h2 : hi ≤ n) (hB : Below ltInt lo hi d) (h0 : 0 < lo ∧ ltInt d[lo - 1]! d[pv]! = false) (hsz : n ≤ 1099511627776) :
    Calls Try.prog 90 #[.slice (some ⟨b, 0, none⟩) n cap, .int .i64 (lo : Int), .int .i64 (hi : Int), .int .i64 (pv : Int)] w fun e w' => ∃ mid : Nat, e = .returned (.int .i64 (mid : Int)) ∧ Peq n b lo hi d rest w w' mid := by
  subst hn
  refine (parteq_any b cap lo hi pv d rest w hA h1 h2 hsz).mono ?_
  rintro e w' ⟨rfl, h, k⟩
  obtain ⟨r1, r2, r3, r4, r5⟩ := round_eq (lt := ltInt) (d4 := (partitionEqual ltInt d lo hi pv).2) (mid := (partitionEqual ltInt d lo hi pv).1) swo_ltInt (partitionEqual_holds ltInt) h0.1 h1.1 h1.2 h2 hB h0.2 rfl
  exact ⟨_, rfl, _, ⟨r1, r2⟩, r3, r4, r5, h, k⟩

def Prt (n b lo hi : Nat) (d : Array Int) (rest : List Value) (w w' : World) (mid : Nat) : Prop := ∃ d', (lo ≤ mid ∧ mid < hi) ∧ d'.size = n ∧ Below ltInt lo mid d' ∧ Below ltInt (mid + 1) hi d' ∧
    (∀ L, PermIn lo mid d' L → SortedIn ltInt lo mid L → Below ltInt (mid + 1) hi L ∧ ∀ R, PermIn (mid + 1) hi L R → SortedIn ltInt (mid + 1) hi R → PermIn lo hi d R ∧ SortedIn ltInt lo hi R) ∧
    (∀ L, PermIn (mid + 1) hi d' L → SortedIn ltInt (mid + 1) hi L → Below ltInt lo mid L ∧ ∀ R, PermIn lo mid L R → SortedIn ltInt lo mid R → PermIn lo hi d R ∧ SortedIn ltInt lo hi R) ∧ Ar w' b d' rest ∧ Sq.Kept (fun k => k ≠ b) w w'

theorem prt_n (b cap lo hi pv n : Nat) (d : Array Int) (rest : List Value) (w : World) (hn : d.size = n) (hA : Ar w b d rest) (h1 : lo ≤ pv ∧ pv < hi) (h2 : hi ≤ n) (hB : Below ltInt lo hi d) (hsz : n ≤ 1099511627776) :
    Calls Try.prog 91 #[.slice (some ⟨b, 0, none⟩) n cap, .int .i64 (lo : Int), .int .i64 (hi : Int), .int .i64 (pv : Int)] w fun e w' => ∃ (mid : Nat) (ap : Bool), e = .returned (.tuple #[.int .i64 (mid : Int), .bool ap]) ∧ Prt n b lo hi d rest w w' mid := by
  subst hn
  refine (part_any b cap lo hi pv d rest w hA h1 h2 hsz).mono ?_
  rintro e w' ⟨rfl, h, k⟩
  obtain ⟨r1, r2, r3, r4, r5, r6, r7⟩ := round_part (lt := ltInt) (d4 := (partition ltInt d lo hi pv).2.2) (mid := (partition ltInt d lo hi pv).1) (ap := (partition ltInt d lo hi pv).2.1) swo_ltInt (partition_holds ltInt) h1.1 h1.2 h2 hB rfl
  exact ⟨_, _, rfl, _, ⟨r1, r2⟩, r3, r4, r5, r6, r7, h, k⟩

/-- where pdqsort's loop stands: what is left is [p, q) -/
structure Iv (n b lo hi : Nat) (d : Array Int) (rest : List Value) (w : World) (p q : Nat) (d' : Array Int) (wr : World) : Prop where
  at_ : lo ≤ p ∧ p ≤ q ∧ q ≤ hi ∧ hi ≤ n
  sz : d'.size = n
  below : Below ltInt p q d'
  fin : ∀ R, PermIn p q d' R → SortedIn ltInt p q R → PermIn lo hi d R ∧ SortedIn ltInt lo hi R
  ar : Ar wr b d' rest
  kept : Sq.Kept (fun k => k ≠ b) w wr

theorem Iv.perm {n b lo hi : Nat} {d : Array Int} {rest : List Value} {w : World} {p q : Nat} {d' : Array Int} {wr : World} (h : Iv n b lo hi d rest w p q d' wr) {d2 : Array Int} {w2 : World} (hn : d2.size = n) (hp : PermIn p q d' d2) (ha : Ar w2 b d2 rest) (k : Sq.Kept (fun k => k ≠ b) wr w2) : Iv n b lo hi d rest w p q d2 w2 :=
  ⟨h.at_, hn, Below.permA permIn_all (by rw [h.sz]; have := h.at_; omega) h.below hp, fun R h1 h2 => h.fin R (permIn_trans _ _ _ _ _ hp h1) h2, ha, h.kept.trans k⟩
theorem Iv.same {n b lo hi : Nat} {d : Array Int} {rest : List Value} {w : World} {p q : Nat} {d' : Array Int} {wr : World} (h : Iv n b lo hi d rest w p q d' wr) {w2 : World} (ha : Ar w2 b d' rest) (k : Sq.Kept (fun k => k ≠ b) wr w2) : Iv n b lo hi d rest w p q d' w2 :=
  ⟨h.at_, h.sz, h.below, h.fin, ha, h.kept.trans k⟩
theorem Iv.done {n b lo hi : Nat} {d : Array Int} {rest : List Value} {w : World} {p q : Nat} {d' : Array Int} {wr : World} (h : Iv n b lo hi d rest w p q d' wr) {w2 : World} (hs : Srt n b p q d' rest wr w2) : Srt n b lo hi d rest w w2 := by
  obtain ⟨R, hn, hp, ha, k⟩ := hs
  exact ⟨R, hn, h.fin R hp.1 hp.2, ha, h.kept.trans k⟩
theorem Iv.per {n b lo hi : Nat} {d : Array Int} {rest : List Value} {w : World} {p q : Nat} {d' : Array Int} {wr : World} (h : Iv n b lo hi d rest w p q d' wr) {w2 : World} (hs : Per n b p q d' rest wr w2) : ∃ d2, Iv n b lo hi d rest w p q d2 w2 := by
  obtain ⟨R, hn, hp, ha, k⟩ := hs
  exact ⟨R, h.perm hn hp ha k⟩
theorem Iv.eq {n b lo hi : Nat} {d : Array Int} {rest : List Value} {w : World} {p q : Nat} {d' : Array Int} {wr : World} (h : Iv n b lo hi d rest w p q d' wr) {w2 : World} {mid : Nat} (hs : Peq n b p q d' rest wr w2 mid) : p < mid ∧ mid ≤ q ∧ ∃ d2, Iv n b lo hi d rest w mid q d2 w2 := by
  obtain ⟨R, hm, hn, hB, hf, ha, k⟩ := hs
  exact ⟨hm.1, hm.2, R, ⟨by have := h.at_; omega, hn, hB, fun S h1 h2 => h.fin S (hf S h1 h2).1 (hf S h1 h2).2, ha, h.kept.trans k⟩⟩
/-- behind the left part's call -/
theorem Iv.left {n b lo hi : Nat} {d : Array Int} {rest : List Value} {w : World} {p q : Nat} {d' : Array Int} {wr : World} (h : Iv n b lo hi d rest w p q d' wr) {w2 : World} {mid : Nat} (hs : Prt n b p q d' rest wr w2 mid) :
    (p ≤ mid ∧ mid < q) ∧ ∃ d2, d2.size = n ∧ Ar w2 b d2 rest ∧ Below ltInt p mid d2 ∧ Below ltInt (mid + 1) q d2 ∧ (∀ w3, Srt n b p mid d2 rest w2 w3 → ∃ d3, Iv n b lo hi d rest w (mid + 1) q d3 w3) ∧ (∀ w3, Srt n b (mid + 1) q d2 rest w2 w3 → ∃ d3, Iv n b lo hi d rest w p mid d3 w3) := by
  obtain ⟨R, hm, hn, hB1, hB2, hf1, hf2, ha, k⟩ := hs
  have := h.at_
  refine ⟨hm, R, hn, ha, hB1, hB2, fun w3 hS => ?_, fun w3 hS => ?_⟩
  · obtain ⟨L, hL, hP, hA, hK⟩ := hS
    obtain ⟨g1, g2⟩ := hf1 L hP.1 hP.2
    exact ⟨L, ⟨by omega, hL, g1, fun S h1 h2 => h.fin S (g2 S h1 h2).1 (g2 S h1 h2).2, hA, (h.kept.trans k).trans hK⟩⟩
  · obtain ⟨L, hL, hP, hA, hK⟩ := hS
    obtain ⟨g1, g2⟩ := hf2 L hP.1 hP.2
    exact ⟨L, ⟨by omega, hL, g1, fun S h1 h2 => h.fin S (g2 S h1 h2).1 (g2 S h1 h2).2, hA, (h.kept.trans k).trans hK⟩⟩
end So6
end Go.Proofs.Ythcllaombabpbaa

/-
  pdqsort over a row of uint64: the walk.
-/
namespace Go.Proofs.Ythcllaombabpbaa
open Go.RowKit Go.Sort
set_option linter.unusedSimpArgs false
set_option linter.unusedVariables false
namespace So6
/-- what a call of pdqsort on a part does -/
def PdqOk (n b cap : Nat) (rest : List Value) (m : Nat) : Prop := ∀ (lo hi lim : Nat) (d : Array Int) (w : World), hi - lo < m → lo ≤ hi → hi ≤ n → d.size = n → Below ltInt lo hi d → Ar w b d rest → n ≤ 1099511627776 → lim ≤ 1099511627776 →
    Calls Try.prog 70 #[.slice (some ⟨b, 0, none⟩) n cap, .int .i64 (lo : Int), .int .i64 (hi : Int), .int .i64 (lim : Int)] w fun e w' => e = .returned (.tuple #[]) ∧ Srt n b lo hi d rest w w'

theorem PdqOk.run {n b cap : Nat} {rest : List Value} {m : Nat} (h : PdqOk n b cap rest m) (lo hi lim : Nat) (d : Array Int) (w : World) (h1 : hi - lo < m) (h2 : lo ≤ hi) (h3 : hi ≤ n) (h4 : d.size = n) (h5 : Below ltInt lo hi d) (h6 : Ar w b d rest) (h7 : n ≤ 1099511627776) (h8 : lim ≤ 1099511627776) :
    Calls Try.prog 70 #[.slice (some ⟨b, 0, none⟩) n cap, .int .i64 (lo : Int), .int .i64 (hi : Int), .int .i64 (lim : Int)] w fun e w' => e = .returned (.tuple #[]) ∧ Srt n b lo hi d rest w w' := h lo hi lim d w h1 h2 h3 h4 h5 h6 h7 h8

set_option maxRecDepth 100000 in
set_option maxHeartbeats 16000000 in
theorem pdq_step (HL : LenOk) (n b cap : Nat) (rest : List Value) (m : Nat) (ih : PdqOk n b cap rest m) : PdqOk n b cap rest (m + 1) := by
  intro lo hi lim0 d w hm hlh h2 hdn hB hA hsz hlim0
  have hI0 : Iv n b lo hi d rest w lo hi d w := ⟨⟨Nat.le_refl _, hlh, Nat.le_refl _, h2⟩, hdn, hB, fun R h1 h2 => ⟨h1, h2⟩, hA, Sq.Kept.refl _ _⟩
  have IH := Lib.hid ih
  have HDN := Lib.hid hdn
  clear ih hA hB hdn
  go_enter Try.func70, Try.ntmps70
  go_wp2_with fail
  go_loopw [1, 2, 3, 8, 9] (fun i1 i2 i3 i8 i9 wr => ∃ (p q lim : Nat) (d' : Array Int) (wb wp : Bool), i1 = .int .i64 (p : Int) ∧ i2 = .int .i64 (q : Int) ∧ i3 = .int .i64 (lim : Int) ∧ i8 = .bool wb ∧ i9 = .bool wp ∧ lim ≤ 1099511627776 ∧ Iv n b lo hi d rest w p q d' wr) (fun i1 i2 _ _ _ _ => (intOf i2).toNat - (intOf i1).toNat)
  case atStart => exact ⟨lo, hi, lim0, d, true, true, rfl, rfl, rfl, rfl, rfl, hlim0, hI0⟩
  case round =>
    obtain ⟨p, q, lim, d', wb, wp, rfl, rfl, rfl, rfl, rfl, hlim, hI⟩ := hrel
    obtain ⟨wo, rfl⟩ : ∃ wo : World, wo = wr := ⟨_, rfl⟩
    have hat := hI.at_
    have hpq : p ≤ q ∧ q ≤ n := by omega
    obtain ⟨N, hN⟩ := named (q - p)
    have hwN : IntKind.i64.wrap ((q : Int) - (p : Int)) = (N : Int) := by rw [IntKind.wrap_i64]; omega
    have HI := Lib.hid hI
    clear hI hI0
    by_cases h12 : N ≤ 12
    · have hN12 : (N : Int) ≤ 12 := by omega
      go_wp2_with (go_at_call 84; (with_reducible refine (ins_n b cap p q n d' rest _ HI.out.sz HI.out.ar hpq.1 hpq.2 hsz).mono ?_); rintro e w2 ⟨rfl, hS⟩)
      refine bodyPost_ret (results_none rfl _ _ _) rfl ?_
      exact ⟨rfl, HI.out.done hS⟩
    · have hN12 : ¬ (N : Int) ≤ 12 := by omega
      by_cases hl0 : lim = 0
      · have hl1 : ((lim : Int) == 0) = true := by simp [hl0]
        have hpq1 : p < q := by omega
        go_wp2_with (go_at_call 85; (with_reducible refine (heap_n b cap p q n d' rest _ HI.out.sz HI.out.ar hpq1 hpq.2 hsz).mono ?_); rintro e w2 ⟨rfl, hS⟩)
        refine bodyPost_ret (results_none rfl _ _ _) rfl ?_
        exact ⟨rfl, HI.out.done hS⟩
      · have hl1 : ((lim : Int) == 0) = false := by simp; omega
        have hpq1 : p < q := by omega
        go_upto_if 35 with fail
        go_cut [3] from 35 to 42 (fun u wx => ∃ (l2 : Nat) (d2 : Array Int), u = .int .i64 (l2 : Int) ∧ l2 ≤ 1099511627776 ∧ Iv n b lo hi d rest w p q d2 wx)
        case first =>
          cases wb with
          | true =>
            go_wp2_with fail
            go_meet
            exact ⟨lim, d', rfl, hlim, HI.out⟩
          | false =>
            obtain ⟨l2, hl2⟩ := named (lim - 1)
            have hwl : IntKind.i64.wrap ((lim : Int) - 1) = (l2 : Int) := by rw [IntKind.wrap_i64]; omega
            go_wp2_with (go_at_call 86; (with_reducible refine (brk_n HL b cap p q n d' rest _ HI.out.sz HI.out.ar hpq1 hpq.2 hsz).mono ?_); rintro e w2 ⟨rfl, hS⟩)
            go_meet
            obtain ⟨d2, h2⟩ := HI.out.per hS
            exact ⟨l2, d2, rfl, by omega, h2⟩
        case rest =>
          obtain ⟨l2, d2, rfl, hl2, hI2⟩ := hcut
          have HI2 := Lib.hid hI2
          clear hI2 HI hl0 hl1 hlim
          have h13 : 12 < q - p := by omega
          go_upto_if 50 with (go_at_call 87; (with_reducible refine (piv_n b cap p q n d2 rest _ HI2.out.sz HI2.out.ar h13 hpq.2 hsz).mono ?_); rintro e w2 ⟨p2, h2, rfl, hP⟩)
          have hI3 := HI2.out.same hP.2.1 hP.2.2
          have hp2 := hP.1
          have HI3 := Lib.hid hI3
          clear hI3 hP HI2
          go_cut [11, 12] from 50 to 61 (fun u v wx => ∃ (p3 : Nat) (h3 : Int) (d3 : Array Int), u = .int .i64 (p3 : Int) ∧ v = .int .i64 h3 ∧ (p ≤ p3 ∧ p3 < q) ∧ Iv n b lo hi d rest w p q d3 wx)
          case first =>
            cases hh : (h2 == 2) with
            | false =>
              go_wp2_with fail
              go_meet
              exact ⟨p2, h2, d2, rfl, rfl, hp2, HI3.out⟩
            | true =>
              obtain ⟨B1, hB1⟩ := named (q - 1)
              obtain ⟨PA, hPA⟩ := named (p2 - p)
              obtain ⟨P3, hP3⟩ := named (B1 - PA)
              have hwB : IntKind.i64.wrap ((q : Int) - 1) = (B1 : Int) := by rw [IntKind.wrap_i64]; omega
              have hwA : IntKind.i64.wrap ((p2 : Int) - (p : Int)) = (PA : Int) := by rw [IntKind.wrap_i64]; omega
              have hwC : IntKind.i64.wrap ((B1 : Int) - (PA : Int)) = (P3 : Int) := by rw [IntKind.wrap_i64]; omega
              go_wp2_with (go_at_call 88; (with_reducible refine (rev_n b cap p q n d2 rest _ HI3.out.sz HI3.out.ar hpq1 hpq.2 hsz).mono ?_); rintro e w3 ⟨rfl, hS⟩)
              go_meet
              obtain ⟨d3, h3⟩ := HI3.out.per hS
              exact ⟨P3, _, d3, rfl, rfl, by omega, h3⟩
          case rest =>
            obtain ⟨p3, h3, d3, rfl, rfl, hp3, hI4⟩ := hcut
            have HI4 := Lib.hid hI4
            clear hI4 HI3 hp2
            go_upto_region 15 with fail
            go_cut [68] from 61 to 69 (fun u wx => ∃ e : Bool, u = .bool e ∧ Iv n b lo hi d rest w p q d3 wx)
            case first =>
              cases wb <;> cases wp <;> cases hh : (h3 == 1)
              all_goals go_wp2_with fail
              all_goals go_meet
              all_goals exact ⟨_, rfl, HI4.out⟩
            case rest =>
              obtain ⟨e, rfl, hI5⟩ := hcut
              have HI5 := Lib.hid hI5
              clear hI5 HI4
              go_upto_if 68 with fail
              go_cut [] from 69 to 73 (fun wx => ∃ d4 : Array Int, Iv n b lo hi d rest w p q d4 wx)
              case first =>
                cases e with
                | false =>
                  go_wp2_with fail
                  go_meet
                  exact ⟨d3, HI5.out⟩
                | true =>
                  go_upto_if 72 with (go_at_call 89; (with_reducible refine (pis_n b cap p q n d3 rest _ HI5.out.sz HI5.out.ar hpq1 hpq.2 HI5.out.below hsz).mono ?_); rintro e w3 ⟨r, rfl, hS⟩)
                  cases r with
                  | true =>
                    go_wp2_with fail
                    refine bodyPost_ret (results_none rfl _ _ _) rfl ?_
                    obtain ⟨d4, g1, g2, g3, g4, g5⟩ := hS
                    exact ⟨rfl, HI5.out.done ⟨d4, g1, ⟨g2, g3 rfl⟩, g4, g5⟩⟩
                  | false =>
                    go_wp2_with fail
                    go_meet
                    obtain ⟨d4, g1, g2, g3, g4, g5⟩ := hS
                    exact ⟨d4, HI5.out.perm g1 g2 g4 g5⟩
              case rest =>
                obtain ⟨d4, hI6⟩ := hcut
                have HI6 := Lib.hid hI6
                clear HI5 hI6
                go_upto_region 17 with fail
                go_cut [87] from 73 to 88 (fun u wx => ∃ e2 : Bool, u = .bool e2 ∧ (e2 = true → 0 < p ∧ ltInt d4[p - 1]! d4[p3]! = false) ∧ Iv n b lo hi d rest w p q d4 wx)
                case first =>
                  by_cases h0p : 0 < p
                  · have h0p2 : (0 : Int) < (p : Int) := by omega
                    obtain ⟨P1, hP1⟩ := named (p - 1)
                    have hwP : IntKind.i64.wrap ((p : Int) - 1) = (P1 : Int) := by rw [IntKind.wrap_i64]; omega
                    have hi1 : (0 : Int) ≤ (P1 : Int) ∧ (P1 : Int) < (n : Int) := by omega
                    have hi2 : (0 : Int) ≤ (p3 : Int) ∧ (p3 : Int) < (n : Int) := by omega
                    have c0 := HI6.out.ar.cell (j := P1) (by rw [HI6.out.sz]; omega)
                    have c1 := HI6.out.ar.cell (j := p3) (by rw [HI6.out.sz]; omega)
                    go_big_quiet ((go_at_call 72; exact Calls.quiet_of_same (less_any _ _ _)))
                    cases hL : ltInt d4[P1]! d4[p3]! with
                    | true =>
                      (try go_wp2_with fail)
                      go_meet
                      exact ⟨_, rfl, fun h => by simp at h, HI6.out.same (HI6.out.ar.drewN nq) (Sq.Kept.drewN _ _ _)⟩
                    | false =>
                      (try go_wp2_with fail)
                      go_meet
                      exact ⟨_, rfl, fun h => ⟨h0p, by rw [show p - 1 = P1 by omega]; exact hL⟩, HI6.out.same (HI6.out.ar.drewN nq) (Sq.Kept.drewN _ _ _)⟩
                  · have h0p2 : ¬ (0 : Int) < (p : Int) := by omega
                    go_big_quiet (fail)
                    (try go_wp2_with fail)
                    go_meet
                    exact ⟨_, rfl, fun h => by simp at h, HI6.out.same (HI6.out.ar.drewN nq) (Sq.Kept.drewN _ _ _)⟩
                case rest =>
                  obtain ⟨e2, rfl, he2, hI7⟩ := hcut
                  have HE2 := Lib.hid he2
                  have HI7 := Lib.hid hI7
                  clear HI6 hI7 he2
                  go_upto_if 87 with fail
                  go_cut [1] from 88 to 94 (fun u wx => u = .int .i64 (p : Int) ∧ Iv n b lo hi d rest w p q d4 wx)
                  case first =>
                    cases e2 with
                    | false =>
                      go_wp2_with fail
                      go_meet
                      exact ⟨rfl, HI7.out⟩
                    | true =>
                      have HE := Lib.hid (HE2.out rfl)
                      clear HE2
                      go_wp2_with (go_at_call 90; (with_reducible refine (peq_n b cap p q p3 n d4 rest _ HI7.out.sz HI7.out.ar hp3 hpq.2 HI7.out.below HE.out hsz).mono ?_); rintro e w3 ⟨mid, rfl, hS⟩)
                      obtain ⟨g1, g2, d5, hI8⟩ := HI7.out.eq hS
                      go_roundw
                      case rel => exact ⟨mid, q, l2, d5, wb, wp, rfl, rfl, rfl, rfl, rfl, hl2, hI8⟩
                      case measure => simp [intOf]; omega
                  case rest =>
                    obtain ⟨rfl, hI8⟩ := hcut
                    have HI8 := Lib.hid hI8
                    clear HI7 hI8 HE2
                    go_upto_region 21 with (go_at_call 91; (with_reducible refine (prt_n b cap p q p3 n d4 rest _ HI8.out.sz HI8.out.ar hp3 hpq.2 HI8.out.below hsz).mono ?_); rintro e w3 ⟨mid, ap, rfl, hP⟩)
                    obtain ⟨hm1, d5, hn5, ha5, hB1, hB2, hL, hR⟩ := HI8.out.left hP
                    obtain ⟨LL, hLL⟩ := named (mid - p)
                    obtain ⟨RR, hRR⟩ := named (q - mid)
                    obtain ⟨T8, hT8⟩ := named (N / 8)
                    have hwL : IntKind.i64.wrap ((mid : Int) - (p : Int)) = (LL : Int) := by rw [IntKind.wrap_i64]; omega
                    have hwR : IntKind.i64.wrap ((q : Int) - (mid : Int)) = (RR : Int) := by rw [IntKind.wrap_i64]; omega
                    have hwT : (N : Int) / 8 = (T8 : Int) := by omega
                    have hwT2 : IntKind.i64.wrap (T8 : Int) = (T8 : Int) := by rw [IntKind.wrap_i64]; omega
                    obtain ⟨M1, hM1⟩ : ∃ M1, M1 = mid + 1 := ⟨_, rfl⟩
                    rw [← hM1] at hB2 hL hR
                    have hM2 : M1 ≤ mid + 1 ∧ mid + 1 ≤ M1 := by omega
                    clear hM1
                    have hwM : IntKind.i64.wrap ((mid : Int) + 1) = (M1 : Int) := by rw [IntKind.wrap_i64]; omega
                    have b1 : mid - p < m := by omega
                    have b2 : q - M1 < m := by omega
                    have b3 : mid ≤ n := by omega
                    have b4 : M1 ≤ q := by omega
                    have HS := Lib.hid (And.intro hn5 ha5)
                    have HB := Lib.hid (And.intro hB1 hB2)
                    have HLR := Lib.hid (And.intro hL hR)
                    clear hn5 ha5 hB1 hB2 hL hR hP HI8
                    by_cases hlt : LL < RR
                    · have hlt2 : (LL : Int) < (RR : Int) := by omega
                      go_wp2_with (go_at_call 70; (with_reducible refine (IH.out.run p mid l2 d5 _ b1 hm1.1 b3 HS.out.1 HB.out.1 HS.out.2 hsz hl2).mono ?_); rintro e w4 ⟨rfl, hS⟩)
                      obtain ⟨d6, h6⟩ := HLR.out.1 _ hS
                      go_roundw
                      case rel => exact ⟨M1, q, l2, d6, _, ap, rfl, rfl, rfl, rfl, rfl, hl2, h6⟩
                      case measure => simp [intOf]; omega
                    · have hlt2 : ¬ (LL : Int) < (RR : Int) := by omega
                      go_wp2_with (go_at_call 70; (with_reducible refine (IH.out.run M1 q l2 d5 _ b2 b4 hpq.2 HS.out.1 HB.out.2 HS.out.2 hsz hl2).mono ?_); rintro e w4 ⟨rfl, hS⟩)
                      obtain ⟨d6, h6⟩ := HLR.out.2 _ hS
                      go_roundw
                      case rel => exact ⟨p, mid, l2, d6, _, ap, rfl, rfl, rfl, rfl, rfl, hl2, h6⟩
                      case measure => simp [intOf]; omega

theorem pdq_any (HL : LenOk) (n b cap : Nat) (rest : List Value) : ∀ m, PdqOk n b cap rest m
  | 0 => fun _ _ _ _ _ h => by omega
  | m + 1 => pdq_step HL n b cap rest m (pdq_any HL n b cap rest m)
end So6
end Go.Proofs.Ythcllaombabpbaa

/-
  slices.Sort over a row of uint64.
-/
namespace Go.Proofs.Ythcllaombabpbaa
open Go.RowKit Go.Sort
set_option linter.unusedSimpArgs false
set_option linter.unusedVariables false
namespace So6
theorem len_aux : ∀ (f x : Nat), Lib.bitLenAux f x ≤ f
  | 0, x => by unfold Lib.bitLenAux; omega
  | f + 1, x => by
    unfold Lib.bitLenAux
    split
    · omega
    · have := len_aux f (x / 2); omega
theorem len_le (x : Nat) : Lib.bitLen x ≤ 1099511627776 := Nat.le_trans (len_aux 64 x) (by omega)

set_option maxRecDepth 100000 in
set_option maxHeartbeats 4000000 in
theorem sort_any (HL : LenOk) (b cap n : Nat) (d : Array Int) (rest : List Value) (w : World) (hn : d.size = n) (hA : Ar w b d rest) (hsz : n ≤ 1099511627776) :
    Calls Try.prog 47 #[.slice (some ⟨b, 0, none⟩) n cap] w fun e w' => e = .returned (.tuple #[]) ∧ Srt n b 0 n d rest w w' := by
  have hw1 : IntKind.u64.wrap (n : Int) = (n : Int) := by simp [IntKind.wrap, IntKind.signed, IntKind.bits]; omega
  have HLN := Lib.hid (fun W => HL n W hsz)
  have hl := len_le n
  generalize Lib.bitLen n = L at *
  have HP : Hid (Calls Try.prog 70 #[.slice (some ⟨b, 0, none⟩) n cap, .int .i64 0, .int .i64 (n : Int), .int .i64 (L : Int)] w fun e w' => e = .returned (.tuple #[]) ∧ Srt n b 0 n d rest w w') :=
    Lib.hid ((pdq_any HL n b cap rest (n + 1)).run 0 n L d w (by omega) (Nat.zero_le _) (Nat.le_refl _) hn (.inl rfl) hA hsz hl)
  clear hA hn
  go_enter Try.func47, Try.ntmps47
  go_wp2_with (first
    | (go_at_call 71; (with_reducible refine (HLN.out _).mono ?_); rintro e w' ⟨rfl, rfl⟩)
    | (go_at_call 70; (with_reducible refine (HP.out).mono ?_); rintro e w' ⟨rfl, hS⟩))
  go_end0
  exact ⟨rfl, hS⟩

/-- a row of no places -/
theorem ins_nil (w : World) : Calls Try.prog 84 #[.slice none 0 0, .int .i64 0, .int .i64 0] w fun e w' => e = .returned (.tuple #[]) ∧ w' = w := by
  go_enter Try.func84, Try.ntmps84
  go_wp2_with fail
  go_loopw [6] (fun i wr => i = .int .i64 1 ∧ wr = w) (fun _ _ => 0)
  case atStart => exact ⟨rfl, rfl⟩
  case round =>
    obtain ⟨rfl, rfl⟩ := hrel
    go_wp2_with fail
    go_end0
    exact ⟨rfl, rfl⟩

theorem pdq_nil (lim : Nat) (w : World) : Calls Try.prog 70 #[.slice none 0 0, .int .i64 0, .int .i64 0, .int .i64 (lim : Int)] w fun e w' => e = .returned (.tuple #[]) ∧ w' = w := by
  go_enter Try.func70, Try.ntmps70
  go_wp2_with fail
  go_loopw [1, 2, 3, 8, 9] (fun i1 i2 i3 i8 i9 wr => i1 = .int .i64 0 ∧ i2 = .int .i64 0 ∧ i3 = .int .i64 (lim : Int) ∧ i8 = .bool true ∧ i9 = .bool true ∧ wr = w) (fun _ _ _ _ _ _ => 0)
  case atStart => exact ⟨rfl, rfl, rfl, rfl, rfl, rfl⟩
  case round =>
    obtain ⟨rfl, rfl, rfl, rfl, rfl, rfl⟩ := hrel
    go_wp2_with (go_at_call 84; (with_reducible refine (ins_nil _).mono ?_); rintro e w2 ⟨rfl, rfl⟩)
    refine bodyPost_ret (results_none rfl _ _ _) rfl ?_
    exact ⟨rfl, rfl⟩

theorem sort_nil (HL : LenOk) (w : World) : Calls Try.prog 47 #[.slice none 0 0] w fun e w' => e = .returned (.tuple #[]) ∧ w' = w := by
  have hw1 : IntKind.u64.wrap 0 = 0 := by simp [IntKind.wrap, IntKind.signed, IntKind.bits]
  have HLN : Hid (∀ W, Calls Try.prog 71 #[.int .u64 0] W fun e w' => e = .returned (.int .i64 (Lib.bitLen 0 : Int)) ∧ w' = W) := Lib.hid (fun W => HL 0 W (by omega))
  generalize Lib.bitLen 0 = L at *
  go_enter Try.func47, Try.ntmps47
  go_wp2_with (first
    | (go_at_call 71; (with_reducible refine (HLN.out _).mono ?_); rintro e w' ⟨rfl, rfl⟩)
    | (go_at_call 70; (with_reducible refine (pdq_nil L _).mono ?_); rintro e w' ⟨rfl, rfl⟩))
  go_end0
  exact ⟨rfl, rfl⟩
end So6
end Go.Proofs.Ythcllaombabpbaa

/-
  slices.Values over a row of uint64.
-/
namespace Go.Proofs.Ythcllaombabpbaa
open Go.RowKit Go.Sort
set_option linter.unusedSimpArgs false
set_option linter.unusedVariables false
attribute [local go_sem] Oper.semAt_some
namespace So6
def uEnc (x : Int) : Array Value := #[.int .u64 x]

theorem vals_any (a : Option Addr) (m cap : Nat) (w : World) :
    Calls Try.prog 29 #[.slice a m cap] w fun e w' => e = .returned (.func (.func 48) #[] #[.pointer (some ⟨w.heap.size, 0, none⟩)]) ∧ w' = w.alloc (.cells #[.slice a m cap] 34) := by
  go_enter Try.func29, Try.ntmps29
  go_wp2
  go_ret
  exact ⟨rfl, rfl⟩

set_option maxRecDepth 100000 in
set_option maxHeartbeats 2000000 in
theorem vals1_seq (n : Nat) (hn : 1 ≤ n) (v : Value) (l : List Int) (hl : l.length ≤ 1099511627776) (B : Nat) (w : World) (hU : Mg.Us B w v l) (hB : w.cell? ⟨B, 0, none⟩ = some v) :
    Sq.SeqC Fence.wide n Try.prog 48 #[.pointer (some ⟨B, 0, none⟩)] uEnc (fun b => b ≤ B) (fun xs => xs = l) (fun pre => pre <+: l) w := by
  intro lp J Jx W hW hJ hJx hY h0
  obtain ⟨a, cap, fb, off, rfl, ha, hc⟩ := hU
  have c0 := hW.cell (p := ⟨B, 0, none⟩) (Nat.le_refl _) hB
  have hcW : ∀ j (h : j < l.length), W.cell? ⟨fb, off + j, none⟩ = some (.int .u64 l[j]) := fun j h => hW.cell (p := ⟨fb, off + j, none⟩) (Nat.le_of_lt (ha (by omega)).2) (hc j h)
  refine callsIn_of_wp Try.func48 rfl trivial ?_ rfl
  simp only [Try.ntmps48, List.size_toArray, List.length_cons, List.length_nil, Nat.reduceAdd, Nat.reduceSub, Array.replicate_succ, Array.replicate_zero, List.push_toArray, List.append_toArray, List.nil_append, List.cons_append]
  gi_wp2
  gi_loopw [7] (fun iv wr => ∃ (q : Nat), q ≤ l.length ∧ iv = .int .i64 (q : Int) ∧ J (fun _ => False) (l.take q) wr ∧ Sq.Kept (fun b => b ≤ B) W wr)
    (fun i _ => l.length - (intOf i).toNat)
  case atStart => exact ⟨0, Nat.zero_le _, rfl, h0, Sq.Kept.refl _ _⟩
  case round =>
    obtain ⟨q, hq, rfl, hJs, hk⟩ := hrel
    by_cases hlt : q < l.length
    · have hi1 : (q : Int) < (l.length : Int) := by omega
      obtain ⟨haa, hfb⟩ := ha (by omega)
      subst haa
      have cq := hk.cell (p := ⟨fb, off + q, none⟩) (Nat.le_of_lt hfb) (hcW q hlt)
      have HT := Lib.hid (show l.take (q + 1) = l.take q ++ [l[q]] by rw [List.take_succ_eq_append_getElem hlt])
      have HSP := Lib.hid (show l.take q ++ [l[q]] <+: l by rw [← HT.out]; exact List.take_prefix _ _)
      obtain ⟨fn, tmps, assign, body, hy, hR⟩ := hY (fun _ => False) (l.take q) l[q] wr hJs (fun k h => h.elim) HSP.out
      have HRR := Lib.hid hR
      clear hR
      simp only [uEnc] at hy
      gi_wp2
      refine HRR.out.mono ?_
      rintro e W3 (⟨rfl, hJ3, hk3⟩ | ⟨rfl, hJx3, hk3⟩)
      · gi_wp2
        go_roundw
        case rel => exact ⟨q + 1, by omega, by go_num, by rw [HT.out]; exact hJ3, hk.trans (hk3.less fun b h _ => .inr h)⟩
        case measure => simp [intOf]; omega
      · gi_wp2
        refine bodyPost_ret (results_none rfl _ _ _) rfl ?_
        exact ⟨⟨_, rfl⟩, .inr ⟨_, _, HSP.out, hJx3⟩⟩
    · obtain rfl : q = l.length := by omega
      have HE := Lib.hid (show l.take l.length = l by simp)
      gi_wp2
      go_end0
      exact ⟨⟨_, rfl⟩, .inl ⟨_, _, HE.out, hJs⟩⟩
end So6
end Go.Proofs.Ythcllaombabpbaa
