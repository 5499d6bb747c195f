/-
  tapestrylaw06.one: an act done by both tables; Add, Len and Bytes, Level, Steps.
-/
import Derived.Test.YtgfpkbdinfdkfaaMemLink
import Derived.Test.YtgfpkbdinfdkfaaMemAddRN
namespace Go.Proofs.Ytgfpkbdinfdkfaa
open Go.RowKit
set_option linter.unusedSimpArgs false
set_option linter.unusedVariables false
namespace Md
open Op (bytesLess)
open Mt (Ver VerIn VerW verV lessB mayB placeB Tab vers put there spot fromL RTabO)
open Vs (vcs)
/-- BOTH TABLES -/
structure Two2 (B0 tb b : Nat) (S : Sq.Blocks) (ns : List Nd) (lv hv : Value) (W : World) : Prop where
  dev : TabAt B0 tb ns W
  ref : RTabO B0 b S lv hv (tabOf ns) W
  apart : ∀ k, Foot tb ns k → ¬ S k
  base : B0 ≤ W.heap.size
theorem Two2.kept {B0 tb b : Nat} {S : Sq.Blocks} {ns : List Nd} {lv hv : Value} {W W' : World} (h : Two2 B0 tb b S ns lv hv W) (hk : Sq.Kept (fun _ => True) W W') : Two2 B0 tb b S ns lv hv W' :=
  ⟨h.dev.kept (hk.less fun _ _ _ => trivial), h.ref.kept (hk.less fun _ _ _ => trivial), h.apart, Nat.le_trans h.base hk.size⟩
theorem Two2.below {B0 tb b : Nat} {S : Sq.Blocks} {ns : List Nd} {lv hv : Value} {W W' : World} (h : Two2 B0 tb b S ns lv hv W) (hb : Below W.heap.size W W') : Two2 B0 tb b S ns lv hv W' := h.kept (Sq.Kept.of_below hb)
theorem Two2.belowB {B0 tb b : Nat} {S : Sq.Blocks} {ns : List Nd} {lv hv : Value} {W W' : World} (h : Two2 B0 tb b S ns lv hv W) {B : Nat} (hB : W.heap.size ≤ B) (hb : Below B W W') : Two2 B0 tb b S ns lv hv W' := h.below (hb.mono hB)
/-- what an act leaves -/
def OnePost (B0 tb b : Nat) (ns : List Nd) (w : World) (e : Ending) (w' : World) : Prop :=
  e = .returned (.bool true) ∧ ∃ S' ns' lv' hv', Two2 B0 tb b S' ns' lv' hv' w' ∧ ns'.length ≤ ns.length + 1 ∧ Below B0 w w'
theorem OnePost.read {B0 tb b : Nat} {S : Sq.Blocks} {ns : List Nd} {lv hv : Value} {w w' : World} (h : Two2 B0 tb b S ns lv hv w) (hb : Below w.heap.size w w') : OnePost B0 tb b ns w (.returned (.bool true)) w' :=
  ⟨rfl, S, ns, lv, hv, h.below hb, Nat.le_succ _, hb.mono h.base⟩
theorem two_added {B0 tb b m nb : Nat} {S S2 : Sq.Blocks} {ns : List Nd} {lv hw lv2 hv2 : Value} {v : Ver} {w w0 w1 w2 : World} (hT : Two2 B0 tb b S ns lv hw w) (hB0 : Below w.heap.size w w0) (T0 : Two2 B0 tb b S ns lv hw w0)
    (hd1 : TabAt B0 tb (preOf ns v ++ ⟨nb, v, m, ns.length⟩ :: postOf ns v) w1) (st1 : Sq.Step (Foot tb ns) (Foot tb (preOf ns v ++ ⟨nb, v, m, ns.length⟩ :: postOf ns v)) w0 w1)
    (R2 : RTabO B0 b S2 lv2 hv2 (put (tabOf ns) v m) w2) (st2 : Sq.Step S S2 w1 w2) : OnePost B0 tb b ns w (.returned (.bool true)) w2 := by
  have hnS : ∀ k, Foot tb (preOf ns v ++ ⟨nb, v, m, ns.length⟩ :: postOf ns v) k → ¬ S k := fun k hk hs => by
    rcases st1.new k hk with h | h
    · exact T0.apart k h hs
    · have := (T0.ref.lo k hs).2; omega
  refine ⟨rfl, S2, _, lv2, hv2, ⟨hd1.kept (st2.kept.less fun k hk _ => hnS k hk), by rw [tab_put]; exact R2, fun k hk hs => ?_, Nat.le_trans hT.base (Nat.le_trans hB0.size (Nat.le_trans st1.kept.size st2.kept.size))⟩, ?_, ?_⟩
  · rcases st2.new k hs with h | h
    · exact hnS k hk h
    · have := (hd1.foot k hk).2; omega
  · have := congrArg List.length (pre_post ns v)
    rw [List.length_append] at this ⊢
    rw [List.length_cons]
    omega
  · refine ((hB0.mono hT.base).trans (st1.kept.below (B := B0) (fun k hk hf => ?_) T0.base)).trans (st2.kept.below (B := B0) (fun k hk hs => ?_) (Nat.le_trans T0.base st1.kept.size))
    · have := (T0.dev.foot k hf).1; omega
    · have := (T0.ref.lo k hs).1; omega
def actV (kd n : Int) (v : Ver) : Value := .agg #[.int .i64 kd, .int .i64 n, .string (Cd.bs v.key), .int .u64 v.seq, .bool v.del, .string (Cd.bs v.val)]
def actC (kd n : Int) (v : Ver) : List Value := [.int .i64 kd, .int .i64 n, .string (Cd.bs v.key), .int .u64 v.seq, .bool v.del, .string (Cd.bs v.val)]

set_option maxRecDepth 100000 in
set_option maxHeartbeats 4000000 in
theorem one_add {B0 tb b : Nat} {S : Sq.Blocks} {ns : List Nd} {lv hw : Value} (n : Int) (v : Ver) (w : World) (hT : Two2 B0 tb b S ns lv hw w) (hL : ns.length ≤ 1048576) (hv : VerIn v) (hn : -9223372036854775808 ≤ n ∧ n ≤ 9223372036854775807) :
    Calls Try.prog 9 #[.pointer (some ⟨tb, 0, none⟩), .pointer (some ⟨b, 0, none⟩), actV 0 n v] w (OnePost B0 tb b ns w) := by
  have hB0 : Below w.heap.size w (w.alloc (.cells #[.int .i64 0, .int .i64 n, .string (Cd.bs v.key), .int .u64 v.seq, .bool v.del, .string (Cd.bs v.val)] 35)) := (Below.refl _ _).alloc (Nat.le_refl _) _
  have o0 := Ob.Obj.new w 35 [.int .i64 0, .int .i64 n, .string (Cd.bs v.key), .int .u64 v.seq, .bool v.del, .string (Cd.bs v.val)]
  have T0 := hT.below hB0
  have hms := hT.dev.may
  have hBB := hT.base
  show Calls _ _ _ _ (fun e w' => OnePost B0 tb b ns w e w')
  by_cases hbad : mayB v = false ∨ n < 1 ∨ 8 < n
  · have HA := Lib.hid (fun W => add_bad (tb := tb) v n W hv.wide hn hbad)
    have HR := Lib.hid (fun W => Mt.addR_bad (b := b) v n W hv hn hbad)
    have HP := Lib.hid (fun w' (h : Below w.heap.size w w') => OnePost.read hT h)
    clear hbad hT
    unfold actV
    unfold verV at *
    go_enter Try.func9, Try.ntmps9
    go_wp2_with (first
      | (go_at_call 12; (with_reducible refine (HA.out _).mono ?_); rintro e w1 ⟨rfl, hb1⟩; have hB1 := hB0.trans (hb1.mono hB0.size); have o1 := o0.below hb1; have x1 := o1.cell 1; have x2 := o1.cell 2; have x3 := o1.cell 3; have x4 := o1.cell 4; have x5 := o1.cell 5; simp at x1 x2 x3 x4 x5)
      | (go_at_call 25; (with_reducible refine (HR.out _).mono ?_); rintro e w2 ⟨rfl, hb2⟩; have hB2 := hB1.trans (hb2.mono hB1.size)))
    refine bodyPost_ret (v := .bool true) (by simp [results, Try.results9, go_sem]) rfl ?_
    exact HP.out _ hB2
  · have hm : mayB v = true := by cases h : mayB v with | true => rfl | false => exact absurd (.inl h) hbad
    have hn1 : 1 ≤ n ∧ n ≤ 8 := by omega
    by_cases hth : thereN ns v = true
    · have HA := Lib.hid (fun W (T : Two2 B0 tb b S ns lv hw W) => add_there v n W T.dev (by omega) hv.wide hm hn1 hth)
      have HR := Lib.hid (fun W (T : Two2 B0 tb b S ns lv hw W) => Mt.addR_there v n W T.ref (tab_ordered T.dev.ord) (tab_in hms) (by rw [tab_len]; omega) hv hm hn1 (by rw [tab_there]; exact hth))
      have HP := Lib.hid (fun w' (h : Below w.heap.size w w') => OnePost.read hT h)
      clear hbad hT hm hth
      unfold actV
      unfold verV at *
      go_enter Try.func9, Try.ntmps9
      go_wp2_with (first
        | (go_at_call 12; (with_reducible refine (HA.out _ T0).mono ?_); rintro e w1 ⟨rfl, hb1⟩; have hB1 := hB0.trans (hb1.mono hB0.size); have T1 := T0.below hb1; have o1 := o0.below hb1; have x1 := o1.cell 1; have x2 := o1.cell 2; have x3 := o1.cell 3; have x4 := o1.cell 4; have x5 := o1.cell 5; simp at x1 x2 x3 x4 x5)
        | (go_at_call 25; (with_reducible refine (HR.out _ T1).mono ?_); rintro e w2 ⟨rfl, hb2⟩; have hB2 := hB1.trans (hb2.mono hB1.size)))
      refine bodyPost_ret (v := .bool true) (by simp [results, Try.results9, go_sem]) rfl ?_
      exact HP.out _ hB2
    · have hth' : thereN ns v = false := by cases h : thereN ns v with | true => exact absurd h hth | false => rfl
      obtain ⟨m, rfl⟩ : ∃ m : Nat, n = (m : Int) := ⟨n.toNat, by omega⟩
      have HA := Lib.hid (fun W (T : Two2 B0 tb b S ns lv hw W) => add_new v m W T.dev (by omega) hv.wide hm (by omega) hth')
      have HR := Lib.hid (fun W (R : RTabO B0 b S lv hw (tabOf ns) W) => Mt.addR_new v m W R (tab_ordered hT.dev.ord) (tab_in hms) (by rw [tab_len]; omega) hv hm (by omega) (by rw [tab_there]; exact hth'))
      have HF := Lib.hid hT.dev.foot
      clear hbad hth hth' hm
      unfold actV
      unfold verV at *
      go_enter Try.func9, Try.ntmps9
      go_wp2_with (first
        | (go_at_call 12; (with_reducible refine (HA.out _ T0).mono ?_); intro e w1 hadd; obtain ⟨rfl, nb, hd1, st1⟩ := hadd; have R1 := T0.ref.kept (st1.kept.less (fun k hk _ hf => T0.apart k hf hk)); have o1 := o0.kept st1.kept (fun hf => by have := (HF.out _ hf).2; omega); have x1 := o1.cell 1; have x2 := o1.cell 2; have x3 := o1.cell 3; have x4 := o1.cell 4; have x5 := o1.cell 5; simp at x1 x2 x3 x4 x5)
        | (go_at_call 25; (with_reducible refine (HR.out _ R1).mono ?_); intro e w2 hadd; obtain ⟨rfl, lv2, hv2, S2, R2, st2⟩ := hadd))
      refine bodyPost_ret (v := .bool true) (by simp [results, Try.results9, go_sem]) rfl ?_
      exact two_added hT hB0 T0 hd1 st1 R2 st2

theorem lens_eq (ns : List Nd) : ((vers (tabOf ns)).map fun x => x.key.length + x.val.length + 16).sum = (ns.map fun x => x.v.key.length + x.v.val.length + 16).sum := by
  rw [tab_vers, List.map_map]; rfl

set_option maxRecDepth 100000 in
set_option maxHeartbeats 4000000 in
theorem one_len {B0 tb b : Nat} {S : Sq.Blocks} {ns : List Nd} {lv hw : Value} (n : Int) (v : Ver) (w : World) (hT : Two2 B0 tb b S ns lv hw w) (hL : ns.length ≤ 1048576) (hv : VerIn v) (hn : -9223372036854775808 ≤ n ∧ n ≤ 9223372036854775807) :
    Calls Try.prog 9 #[.pointer (some ⟨tb, 0, none⟩), .pointer (some ⟨b, 0, none⟩), actV 3 n v] w (OnePost B0 tb b ns w) := by
  have hB0 : Below w.heap.size w (w.alloc (.cells #[.int .i64 3, .int .i64 n, .string (Cd.bs v.key), .int .u64 v.seq, .bool v.del, .string (Cd.bs v.val)] 35)) := (Below.refl _ _).alloc (Nat.le_refl _) _
  have T0 := hT.below hB0
  have HP := Lib.hid (fun w' (h : Below w.heap.size w w') => OnePost.read hT h)
  have HLN := Lib.hid (fun W (T : Two2 B0 tb b S ns lv hw W) => len_any W T.dev)
  have HBY := Lib.hid (fun W (T : Two2 B0 tb b S ns lv hw W) => bytes_any W T.dev)
  have HBR := Lib.hid (fun W (T : Two2 B0 tb b S ns lv hw W) => (show Calls Try.prog 28 #[lv] W fun e w' => e = .returned (.int .i64 ((ns.map fun x => x.v.key.length + x.v.val.length + 16).sum : Nat)) ∧ Below W.heap.size W w' from by
    rw [← lens_eq]
    exact Mt.bytesR6_any lv (vers (tabOf ns)) W T.ref.tab.vers (by rw [tab_vers]; exact vers_mem hT.dev.may) (by rw [tab_vers, List.length_map]; omega)))
  have y0 := T0.ref.obj.cell 0
  have yl := T0.ref.obj.lt
  simp at y0
  obtain ⟨a, cap, hlv, _⟩ := Sq.row_cases T0.ref.rowL
  rw [tab_len] at hlv
  generalize (ns.map fun x => x.v.key.length + x.v.val.length + 16).sum = sm at *
  subst hlv
  unfold actV
  show Calls _ _ _ _ (fun e w' => OnePost B0 tb b ns w e w')
  go_enter Try.func9, Try.ntmps9
  go_wp2_with (first
    | (go_at_call 15; (with_reducible refine (HLN.out _ T0).mono ?_); rintro e w1 ⟨rfl, rfl⟩)
    | (go_at_call 16; (with_reducible refine (HBY.out _ T0).mono ?_); rintro e w1 ⟨rfl, rfl⟩)
    | (go_at_call 28; (with_reducible refine (HBR.out _ T0).mono ?_); rintro e w2 ⟨rfl, hb2⟩; have hB2 := hB0.trans (hb2.mono hB0.size)))
  refine bodyPost_ret (v := .bool true) (by simp [results, Try.results9, go_sem]) rfl ?_
  exact HP.out _ hB2

set_option maxRecDepth 100000 in
set_option maxHeartbeats 4000000 in
theorem one_steps {B0 tb b : Nat} {S : Sq.Blocks} {ns : List Nd} {lv hw : Value} (kd n : Int) (v : Ver) (w : World) (hT : Two2 B0 tb b S ns lv hw w) (hL : ns.length ≤ 1048576) (hv : VerIn v) (hn : -9223372036854775808 ≤ n ∧ n ≤ 9223372036854775807) (hk : kd < 0 ∨ 4 < kd) :
    Calls Try.prog 9 #[.pointer (some ⟨tb, 0, none⟩), .pointer (some ⟨b, 0, none⟩), actV kd n v] w (OnePost B0 tb b ns w) := by
  have hB0 : Below w.heap.size w (w.alloc (.cells #[.int .i64 kd, .int .i64 n, .string (Cd.bs v.key), .int .u64 v.seq, .bool v.del, .string (Cd.bs v.val)] 35)) := (Below.refl _ _).alloc (Nat.le_refl _) _
  have o0 := Ob.Obj.new w 35 [.int .i64 kd, .int .i64 n, .string (Cd.bs v.key), .int .u64 v.seq, .bool v.del, .string (Cd.bs v.val)]
  have T0 := hT.below hB0
  have HP := Lib.hid (fun w' (h : Below w.heap.size w w') => OnePost.read hT h)
  have HS := Lib.hid (fun W (T : Two2 B0 tb b S ns lv hw W) => steps_any v.key W T.dev (by omega) (Nat.le_trans hv.1 (by omega)))
  have HR := Lib.hid (fun W (T : Two2 B0 tb b S ns lv hw W) => (show Calls Try.prog 30 #[.pointer (some ⟨b, 0, none⟩), .string (Cd.bs v.key)] W fun e w' => e = .returned (.int .i64 ((stJ (preOf ns (topV v.key)) 8).n : Int)) ∧ Below W.heap.size W w' from by
    rw [← tab_steps hT.dev.ord hT.dev.may]
    exact Mt.stepsR_any b lv hw (tabOf ns) v.key W T.ref.tab (by rw [tab_len]; omega) hv.1))
  have k0 : (kd == 0) = false := by simp; omega
  have k1 : (kd == 1) = false := by simp; omega
  have k2 : (kd == 2) = false := by simp; omega
  have k3 : (kd == 3) = false := by simp; omega
  have k4 : (kd == 4) = false := by simp; omega
  generalize (stJ (preOf ns (topV v.key)) 8).n = sm at *
  unfold actV
  show Calls _ _ _ _ (fun e w' => OnePost B0 tb b ns w e w')
  go_enter Try.func9, Try.ntmps9
  go_wp2_with (first
    | (go_at_call 24; (with_reducible refine (HS.out _ T0).mono ?_); rintro e w1 ⟨rfl, hb1⟩; have hB1 := hB0.trans (hb1.mono hB0.size); have T1 := T0.below hb1; have o1 := o0.below hb1; have x2 := o1.cell 2; simp at x2)
    | (go_at_call 30; (with_reducible refine (HR.out _ T1).mono ?_); rintro e w2 ⟨rfl, hb2⟩; have hB2 := hB1.trans (hb2.mono hB1.size)))
  refine bodyPost_ret (v := .bool true) (by simp [results, Try.results9, go_sem]) rfl ?_
  exact HP.out _ hB2

set_option maxRecDepth 100000 in
set_option maxHeartbeats 2000000 in
theorem level_out {tb : Nat} (l : Int) (w : World) (h : l < 0 ∨ 8 ≤ l) (hl : -9223372036854775808 ≤ l ∧ l ≤ 9223372036854775807) : Calls Try.prog 23 #[.pointer (some ⟨tb, 0, none⟩), .int .i64 l] w fun e w' => e = .returned (.slice none 0 0) ∧ w = w' := by
  obtain ⟨_, _⟩ := hl
  rcases h with h | h
  · go_enter Try.func23, Try.ntmps23
    go_wp2_with fail
    all_goals go_ret
    all_goals exact ⟨rfl, rfl⟩
  · have h2 : ¬ l < 0 := by omega
    go_enter Try.func23, Try.ntmps23
    go_wp2_with fail
    all_goals go_ret
    all_goals exact ⟨rfl, rfl⟩
theorem level_all {B0 tb : Nat} {ns : List Nd} (l : Int) (w : World) (hT : TabAt B0 tb ns w) (hL : ns.length ≤ 1048576) (hl : -9223372036854775808 ≤ l ∧ l ≤ 9223372036854775807) :
    Calls Try.prog 23 #[.pointer (some ⟨tb, 0, none⟩), .int .i64 l] w fun e w' => ∃ u, e = .returned u ∧ w'.ownsRow w.heap.size 33 4 u (Mt.level (tabOf ns) l).length (vcs (Mt.level (tabOf ns) l)) ∧ Below w.heap.size w w' := by
  by_cases h : l < 0 ∨ 8 ≤ l
  · rw [tab_level_out (fun x hx => (hT.hgt x hx).2) h]
    refine (level_out l w h hl).mono ?_
    rintro e w' ⟨rfl, rfl⟩
    exact ⟨_, rfl, World.ownsRow_nil _ _ _ _, Below.refl _ _⟩
  · obtain ⟨m, rfl⟩ : ∃ m : Nat, l = (m : Int) := ⟨l.toNat, by omega⟩
    rw [tab_level]
    exact level_any m w hT (by omega) (by omega)

set_option maxRecDepth 100000 in
set_option maxHeartbeats 4000000 in
theorem one_level {B0 tb b : Nat} {S : Sq.Blocks} {ns : List Nd} {lv hw : Value} (n : Int) (v : Ver) (w : World) (hT : Two2 B0 tb b S ns lv hw w) (hL : ns.length ≤ 1048576) (hv : VerIn v) (hn : -9223372036854775808 ≤ n ∧ n ≤ 9223372036854775807) :
    Calls Try.prog 9 #[.pointer (some ⟨tb, 0, none⟩), .pointer (some ⟨b, 0, none⟩), actV 4 n v] w (OnePost B0 tb b ns w) := by
  have hB0 : Below w.heap.size w (w.alloc (.cells #[.int .i64 4, .int .i64 n, .string (Cd.bs v.key), .int .u64 v.seq, .bool v.del, .string (Cd.bs v.val)] 35)) := (Below.refl _ _).alloc (Nat.le_refl _) _
  have o0 := Ob.Obj.new w 35 [.int .i64 4, .int .i64 n, .string (Cd.bs v.key), .int .u64 v.seq, .bool v.del, .string (Cd.bs v.val)]
  have T0 := hT.below hB0
  have HP := Lib.hid (fun w' (h : Below w.heap.size w w') => OnePost.read hT h)
  have HS := Lib.hid (fun W (T : Two2 B0 tb b S ns lv hw W) => level_all n W T.dev hL hn)
  have HR := Lib.hid (fun W (T : Two2 B0 tb b S ns lv hw W) => Mt.levelR_any b lv hw (tabOf ns) n W T.ref.tab (by rw [tab_len]; omega) hn)
  have hll : (Mt.level (tabOf ns) n).length ≤ ns.length := by
    unfold Mt.level
    rw [List.length_map]
    have := List.length_filter_le (fun x : Ver × Nat => decide (0 ≤ n ∧ n < (x.2 : Int))) (tabOf ns)
    rw [tab_len] at this
    exact this
  have HSM := Lib.hid (fun u v W (h1 : Vs.Vers W.heap.size W u (Mt.level (tabOf ns) n)) (h2 : Vs.Vers W.heap.size W v (Mt.level (tabOf ns) n)) => Mt.sameR_eq u v _ W h1 h2 (by omega))
  generalize Mt.level (tabOf ns) n = LL at *
  unfold actV
  show Calls _ _ _ _ (fun e w' => OnePost B0 tb b ns w e w')
  go_enter Try.func9, Try.ntmps9
  go_wp2_with (first
    | (go_at_call 23; (with_reducible refine (HS.out _ T0).mono ?_); rintro e w1 ⟨u, rfl, hr1, hb1⟩; have hB1 := hB0.trans (hb1.mono hB0.size); have T1 := T0.below hb1; have o1 := o0.below hb1; have x1 := o1.cell 1; simp at x1)
    | (go_at_call 29; (with_reducible refine (HR.out _ T1).mono ?_); rintro e w2 ⟨u2, rfl, hr2, hb2⟩; have hB2 := hB1.trans (hb2.mono hB1.size); have hv1 := (Vs.vers_of_own hr1).grow hb2 hb2.size; have hv2 := Vs.vers_of_own hr2)
    | (go_at_call 11; (with_reducible refine (HSM.out _ _ _ hv1 hv2).mono ?_); rintro e w3 ⟨rfl, hb3⟩; have hB3 := hB2.trans (hb3.mono hB2.size)))
  refine bodyPost_ret (v := .bool true) (by simp [results, Try.results9, go_sem]) rfl ?_
  exact HP.out _ hB3
end Md
end Go.Proofs.Ytgfpkbdinfdkfaa
