import Derived.Deep.AppendLies
import Derived.Shelf.Abstract
import Derived.Shelf.RegionOpen
import Derived.OwnWalkIn
import Derived.TacticsInMore
import Derived.LoopNIn
import Derived.LoopIn
import Derived.Deep.RegionHeld3
import Derived.Deep.CutRange
import Derived.Laws.CopyOwn
import Derived.Deep.Quiet
import Derived.Deep.QuietTactic
import Derived.BigQuiet
import Derived.OrdersIn
import Derived.CallsIn
import Derived.RangeFuncCalls
import Derived.RecoverIn
import Derived.Sort.CutIn
import Derived.Test.YthcllaombabpbaaPart5
/-
  slices.AppendSeq of the numbers of a row.
-/
namespace Go.Proofs.Ythcllaombabpbaa
open Go.RowKit Go.Sort
set_option linter.unusedSimpArgs false
set_option linter.unusedVariables false
attribute [local go_sem] Oper.semAt_some
namespace So6
open Mg
theorem info_u64s : (Try.prog.info? 39).map (fun i => (i.zero, i.size, i.bytes)) = some (some (.int .u64 0), 1, 8) := by kernel_rfl
def us (l : List Int) : List Value := l.map (Value.int .u64)
theorem us_snoc (l : List Int) (x : Int) : us (l ++ [x]) = us l ++ [.int .u64 x] := by simp [us]

/-- what stands between the rounds -/
def usI (w : World) (R : Sq.Blocks) (pre : List Int) (X : World) : Prop :=
  ∃ u, ((Boxed X w.heap.size 34 u ∧ ¬ R w.heap.size) ∧ (X.ownsRow (w.heap.size + 1) 39 1 u pre.length (us pre) ∧ ∀ g, u.ownBlock = some g → ¬ R g)) ∧
    (Sq.Kept (fun k => k < w.heap.size) w X ∧ ∀ k, k < w.heap.size → k < w.heap.size → ¬ R k)

theorem usI_steady (w : World) : Sq.Steady (usI w) :=
  Sq.Steady.ex fun u => ((Sq.Steady.box _ _ _).and (Sq.Steady.row _ _ _ (fun _ => u) _ _)).and (Sq.Steady.kept _ _)

theorem usI_next {w X X1 X2 : World} {R : Sq.Blocks} {pre : List Int} {x : Int} {u : Value} {g cap : Nat} {T : Sq.Blocks} (hT : ∀ k, T k → k < w.heap.size)
    (hb : Boxed X w.heap.size 34 u) (hnb : ¬ R w.heap.size) (hrow : X.ownsRow (w.heap.size + 1) 39 1 u pre.length (us pre)) (hnr : ∀ g, u.ownBlock = some g → ¬ R g)
    (hk : Sq.Kept (fun k => k < w.heap.size) w X) (hnk : ∀ k, k < w.heap.size → k < w.heap.size → ¬ R k)
    (hbd : ∀ k, R k → k < X.heap.size) (hX1 : Sq.Kept (fun _ => True) X X1) (hs1 : X1.heap.size = X.heap.size + 1)
    (hown2 : X2.ownsRow (w.heap.size + 1) 39 1 (.slice (some ⟨g, 0, none⟩) (pre.length + 1) cap) (pre.length + 1) (us pre ++ [.int .u64 x]))
    (hgrow : X1.grownBy X2 u.ownBlock) (hat : u.ownBlock = some g ∨ g = X.heap.size + 1) :
    Boxed X2 w.heap.size 34 u ∧
    usI w R (pre ++ [x]) (X2.setCell ⟨w.heap.size, 0, none⟩ (.slice (some ⟨g, 0, none⟩) (pre.length + 1) cap)) ∧
    Sq.Kept (fun k => R k ∨ T k) X (X2.setCell ⟨w.heap.size, 0, none⟩ (.slice (some ⟨g, 0, none⟩) (pre.length + 1) cap)) := by
  have hge : ∀ r, u.ownBlock = some r → w.heap.size + 1 ≤ r := fun r hr => (Ob.row_lt hrow hr).1
  have hKg : Sq.Kept (fun k => ∀ r, u.ownBlock = some r → k ≠ r) X1 X2 := Sq.Kept.grown hgrow (fun r hr h => h r hr rfl)
  have hK2 : Sq.Kept (fun k => ∀ r, u.ownBlock = some r → k ≠ r) X X2 := (hX1.less (fun _ _ _ => trivial)).trans hKg
  have hb2 := hK2.boxed (fun r hr e => by have := hge r hr; omega) hb
  have hk2 : Sq.Kept (fun k => k < w.heap.size) w X2 := hk.trans (hK2.less (fun k hk _ r hr e => by have := hge r hr; have : k < w.heap.size := hk; omega))
  refine ⟨hb2, ?_, ?_⟩
  · refine ⟨_, ⟨⟨hb2.set _, hnb⟩, ?_, ?_⟩, hk2.trans (Sq.Kept.setCell _ _ (by simp)), hnk⟩
    · rw [us_snoc, List.length_append, List.length_singleton]
      refine Ob.row_other hown2 (fun e => ?_) _
      have := (Ob.row_lt hown2 e).1
      simp at this
      omega
    · intro g' hg'
      obtain rfl : g = g' := by simpa [Value.ownBlock] using hg'
      rcases hat with h | h
      · exact hnr g h
      · intro hr; have := hbd g hr; omega
  · refine (hK2.less (fun k hk hl r hr e => ?_)).trans (Sq.Kept.setCell _ _ (by
      rintro (h | h)
      · exact hnb h
      · have := hT _ h; simp at this))
    subst e
    rcases hk with h | h
    · exact hnr k hr h
    · have := hge k hr; have := hT _ h; omega

set_option maxRecDepth 100000 in
set_option maxHeartbeats 4000000 in
theorem app_any (v : Value) (l : List Int) (B : Nat) (w : World) (hl : l.length ≤ 1099511627776) (hU : Us B w v l) (hB : w.cell? ⟨B, 0, none⟩ = some v) (hBw : B < w.heap.size) :
    Calls Try.prog 69 #[.slice none 0 0, .func (.func 48) #[] #[.pointer (some ⟨B, 0, none⟩)]] w fun e w' => ∃ u, e = .returned u ∧ w'.ownsRow w.heap.size 39 1 u l.length (us l) ∧ Below w.heap.size w w' := by
  obtain ⟨i0, hi, hz0, hz1, hz2⟩ := info_parts info_u64s
  refine (callsIn_wide (n := 12)).1 ?_
  refine callsIn_of_wp_marks Try.func69 rfl trivial ?_ rfl
  refine wpIn_wide.2 ?_
  simp only [Try.ntmps69, List.size_toArray, List.length_cons, List.length_nil, Nat.reduceAdd, Nat.reduceSub, Array.replicate_succ, Array.replicate_zero, List.push_toArray, List.append_toArray, List.nil_append, List.cons_append]
  go_wp2_with fail
  obtain ⟨w1, hw1⟩ : ∃ w1, w.alloc (.cells #[.slice none 0 0] 34) = w1 := ⟨_, rfl⟩
  have hB1 : Below w.heap.size w w1 := by rw [← hw1]; exact (Below.refl _ _).alloc (Nat.le_refl _) _
  have bL : Boxed w1 w.heap.size 34 (.slice none 0 0) := by rw [← hw1]; exact Boxed.new w _ _
  have hs1 : w1.heap.size = w.heap.size + 1 := by rw [← hw1]; simp
  have hU1 : Us B w1 v l := by
    obtain ⟨a, cap, fb, off, h1, h2, h3⟩ := hU
    exact ⟨a, cap, fb, off, h1, h2, fun j h => (hB1.cell (p := ⟨fb, off + j, none⟩) (Nat.lt_trans (h2 (by omega)).2 hBw)).trans (h3 j h)⟩
  have hBc := (hB1.cell (p := ⟨B, 0, none⟩) hBw).trans hB
  rw [hw1]
  clear hw1 hU hB
  refine (wpIn_wide (n := 12)).1 ?_
  refine Sq.wp_range rfl (by omega) (gf := 48) (lb := #[.pointer (some ⟨B, 0, none⟩)]) rfl trivial (enters_of Try.func48 (by kernel_rfl) rfl)
    (vals1_seq 11 (by omega) v l hl B w1 hU1 hBc) (by intro k hk; omega) (fun _ => rfl)
    (fun R pre X => usI w R pre X)
    (fun _ _ _ _ => False)
    (fun a' x R pre X => usI w R pre X ∧
      a' = { tmps := #[.slice none 0 0, .func (.func 48) #[] #[.pointer (some ⟨B, 0, none⟩)], .pointer (some ⟨w.heap.size, 0, none⟩), undef, .slice none 0 0, .int .u64 x, .func (.func 48) #[] #[.pointer (some ⟨B, 0, none⟩)], .int .u64 x, undef, undef, undef, undef, undef], defers := [] })
    (usI_steady w) (fun _ => Sq.Steady.no) (fun a' x => (usI_steady w).and (Sq.Steady.pure _))
    ⟨_, ⟨⟨bL, fun h => h⟩, World.ownsRow_nil _ _ _ _, fun _ h => by simp [Value.ownBlock] at h⟩, ⟨hB1.os, hB1.tape, hB1.output, hB1.size, fun k hk _ => hB1.block k hk⟩, fun _ _ _ h => h⟩ ?assign ?body ?done ?stop
  case assign =>
    rintro lr R pre x X hbd hsp hI
    simp only [uEnc]
    gi_wp2
    exact ⟨Sq.Kept.refl _ _, hI, trivial⟩
  case body =>
    rintro lr R pre x a' X hRl hrec hbd hsp ⟨hI, rfl⟩
    obtain ⟨u, ⟨⟨hb, hnb⟩, hrow, hnr⟩, hk, hnk⟩ := hI
    have hc0 := hb.cell
    have hfl : pre.length + 1 ≤ l.length := by have := hsp.length_le; simpa using this
    have hX4 : w.heap.size + 1 ≤ X.heap.size := by have := (hbd lr hRl).1; have := (hbd lr hRl).2; omega
    have HNX := Lib.hid (fun X1 X2 g cap (h1 : Sq.Kept (fun _ => True) X X1) (h2 : X1.heap.size = X.heap.size + 1) h3 h4 h5 => usI_next (T := fun k => k ≤ B) (fun k hk => Nat.lt_of_le_of_lt hk hBw) (x := x) (X1 := X1) (X2 := X2) (g := g) (cap := cap) hb hnb hrow hnr hk hnk (fun k hk => (hbd k hk).2) h1 h2 h3 h4 h5)
    have hrow' := hrow.alloc (.cells #[.int .u64 x] 39)
    clear hb hnb hrow hnr hk hnk hsp
    gi_wp2_with (refine wpListIn_append_lies _ rfl _ _ 34 rfl (w.heap.size + 1) 39 i0 (.int .u64 0) 1 8 Try.underlying34 hi hz0 hz1 hz2 rfl (by decide) _ _ _ rfl hrow' ⟨X.heap.size, 0, none⟩ 1 1 [_] rfl rfl (cell_one_new _ _ _) (by simp [Value.oneCell']) (by decide) (by unfold maxLen; omega) (by omega) (by simp; omega) (X.heap.size + 1) (by simp) ?_; intro g cap X2 hown2 hgrow hat hlt2; obtain ⟨z1, z2, z3⟩ := HNX.out _ X2 g cap (Sq.Kept.alloc _ _ _) (by simp) hown2 hgrow hat; have Z3 := Lib.hid z3; have Z2 := Lib.hid z2; have q1 := z1.cell; have q2 := z1.frozen; have q3 := z1.lt; clear z1 z2 z3 hown2 hgrow hat)
    exact ⟨Z3.out, Z2.out⟩
  case done =>
    rintro D R ys X hD hRD rfl hI hdf
    obtain ⟨u, ⟨⟨hb, hnb⟩, hrow, hnr⟩, hk, hnk⟩ := hI
    have hc0 := hb.cell
    have HR := Lib.hid (Sq.row_kept (row_lower hrow (by omega : w.heap.size ≤ w.heap.size + 1)) (Sq.Kept.putObj (T := fun k => k ≠ D) X (l := D) (.deferred none) (by simp)) (fun g hg e => hnr g hg (e ▸ hRD)))
    have HB := Lib.hid ((hk.trans (Sq.Kept.putObj X (l := D) (.deferred none) (by omega))).below (fun _ h => h) (Nat.le_refl _))
    clear hb hrow hk hnk hnr
    gi_wp2
    go_wp2_with fail
    refine ⟨by simp, .inl ⟨_, _, rfl, run_takeDeferred hdf, ?_⟩⟩
    exact ⟨_, results_tmp rfl _ _ _, u, rfl, HR.out, HB.out⟩
  case stop =>
    rintro D R c pre X hD hRD hsp hI hdf
    exact hI.elim
end So6
end Go.Proofs.Ythcllaombabpbaa

/-
  slices.Collect, slices.Sorted of the numbers of a row.
-/
namespace Go.Proofs.Ythcllaombabpbaa
open Go.RowKit Go.Sort
set_option linter.unusedSimpArgs false
set_option linter.unusedVariables false
namespace So6
open Mg
theorem col_any (v : Value) (l : List Int) (B : Nat) (w : World) (hl : l.length ≤ 1099511627776) (hU : Us B w v l) (hB : w.cell? ⟨B, 0, none⟩ = some v) (hBw : B < w.heap.size) :
    Calls Try.prog 46 #[.func (.func 48) #[] #[.pointer (some ⟨B, 0, none⟩)]] w fun e w' => ∃ u, e = .returned u ∧ w'.ownsRow w.heap.size 39 1 u l.length (us l) ∧ Below w.heap.size w w' := by
  have HA := Lib.hid (app_any v l B w hl hU hB hBw)
  clear hU hB
  go_enter Try.func46, Try.ntmps46
  go_wp2_with (go_at_call 69; (with_reducible refine (HA.out).mono ?_); rintro e w1 ⟨u, rfl, hrow, hb1⟩; obtain ⟨ao, l', cap, rfl⟩ := ownsRow_slice hrow)
  go_ret
  exact ⟨_, rfl, hrow, hb1⟩

/-- the numbers of a row, rising -/
def SortedRow (l : List Int) (B : Nat) (W : World) (v : Value) : Prop := ∃ (a : Option Addr) (cap b : Nat) (S : List Int), v = .slice a S.length cap ∧ S.Perm l ∧ S.Pairwise (· ≤ ·) ∧ (0 < S.length → a = some ⟨b, 0, none⟩ ∧ B ≤ b ∧ b < W.heap.size) ∧ ∀ j (h : j < S.length), W.cell? ⟨b, j, none⟩ = some (.int .u64 S[j])

theorem ar_of_own {W : World} {B g n cap : Nat} {l : List Int} (h : W.ownsRow B 39 1 (.slice (some ⟨g, 0, none⟩) n cap) l.length (us l)) : ∃ rest, Ar W g l.toArray rest := by
  rcases h.2 with ⟨h1, _⟩ | ⟨g', cap', cur, h1, h2, h3, h4, h5, h6, h7⟩
  · cases h1
  · injection h1 with e1 e2 e3
    injection e1 with e1
    injection e1 with e1 _ _
    subst e1
    refine ⟨cur.toList.drop l.length, ?_⟩
    unfold Ar Ob.Obj
    rw [h3]
    congr 2
    rw [show l.toArray.toList.map (Value.int .u64) = cur.toList.take l.length by rw [Nat.mul_one] at h7; rw [h7]; rfl, List.take_append_drop]

theorem pair_of_sorted {n : Nat} {d : Array Int} (hn : d.size = n) (h : SortedIn ltInt 0 n d) : d.toList.Pairwise (· ≤ ·) := by
  rw [List.pairwise_iff_getElem]
  intro i j hi hj hij
  have h1 := h i j (Nat.zero_le _) hij (by simpa [hn] using hj)
  have hi' : i < d.size := by simpa using hi
  have hj' : j < d.size := by simpa using hj
  rw [getElem!_pos d i hi', getElem!_pos d j hj'] at h1
  simp only [ltInt, decide_eq_false_iff_not] at h1
  simp only [Array.getElem_toList]
  omega

theorem sort_row (HL : LenOk) (u : Value) (l : List Int) (B : Nat) (W : World) (h : W.ownsRow B 39 1 u l.length (us l)) (hl : l.length ≤ 1099511627776) :
    Calls Try.prog 47 #[u] W fun e w' => e = .returned (.tuple #[]) ∧ SortedRow l B w' u ∧ Sq.Kept (fun k => k < B) W w' := by
  have h0 := h
  rcases h.2 with ⟨rfl, hz⟩ | ⟨g, cap, cur, rfl, h2, h3, h4, h5, h6, h7⟩
  · refine (sort_nil HL W).mono ?_
    rintro e w' ⟨rfl, rfl⟩
    refine ⟨rfl, ⟨none, 0, 0, [], rfl, ?_, List.Pairwise.nil, fun h => by simp at h, fun j h => by simp at h⟩, Sq.Kept.refl _ _⟩
    rw [List.eq_nil_of_length_eq_zero hz]
  · obtain ⟨rest, hA⟩ := ar_of_own h0
    refine (sort_any HL g cap l.length l.toArray rest W (by simp) hA hl).mono ?_
    rintro e w' ⟨rfl, d', hn, ⟨hP, hS⟩, hA', hk⟩
    have hlen : d'.toList.length = l.length := by simpa using hn
    refine ⟨rfl, ⟨some ⟨g, 0, none⟩, cap, g, d'.toList, by rw [hlen], ?_, pair_of_sorted hn hS, fun _ => ⟨rfl, h2, hA'.lt⟩, fun j hj => ?_⟩, hk.less fun k hkB _ => by omega⟩
    · have hp := hP.2.2
      rw [show d'.extract 0 l.length = d' by rw [← hn]; exact Array.extract_size, show l.toArray.extract 0 l.length = l.toArray by simp] at hp
      exact hp
    · have hj' : j < d'.size := by simpa using hj
      rw [hA'.cell hj', getElem!_pos d' j hj']
      simp

set_option maxRecDepth 100000 in
theorem sorted_any (HL : LenOk) (v : Value) (l : List Int) (B : Nat) (w : World) (hl : l.length ≤ 1099511627776) (hU : Us B w v l) (hB : w.cell? ⟨B, 0, none⟩ = some v) (hBw : B < w.heap.size) :
    Calls Try.prog 28 #[.func (.func 48) #[] #[.pointer (some ⟨B, 0, none⟩)]] w fun e w' => ∃ u, e = .returned u ∧ SortedRow l w.heap.size w' u ∧ Below w.heap.size w w' := by
  have HA := Lib.hid (col_any v l B w hl hU hB hBw)
  have HS := Lib.hid (fun u W h => sort_row HL u l w.heap.size W h hl)
  clear hU hB
  go_enter Try.func28, Try.ntmps28
  go_wp2_with (first
    | (go_at_call 46; (with_reducible refine (HA.out).mono ?_); rintro e w1 ⟨u, rfl, hrow, hb1⟩; obtain ⟨ao, l', cap, rfl⟩ := ownsRow_slice hrow; have HROW := Lib.hid hrow; clear hrow)
    | (go_at_call 47; (with_reducible refine (HS.out _ _ HROW.out).mono ?_); rintro e w2 ⟨rfl, hS, hk⟩))
  go_ret
  exact ⟨_, rfl, hS, hb1.trans (hk.below (fun k h => h) hb1.size)⟩
end So6
end Go.Proofs.Ythcllaombabpbaa

/-
  slices.BinarySearch over a rising row of uint64; merge.anyWithin.
-/
namespace Go.Proofs.Ythcllaombabpbaa
open Go.RowKit Go.Sort
set_option linter.unusedSimpArgs false
set_option linter.unusedVariables false
namespace So6
open Mg
theorem nan2_any (x : Int) (w : World) : Calls Try.prog 73 #[.int .u64 x] w fun e w' => e = .returned (.bool false) ∧ w = w' := by
  go_enter Try.func73, Try.ntmps73
  go_wp2
  go_ret
  exact ⟨by simp, rfl⟩

/-- where the first number stands that is at least x -/
def Low (S : List Int) (x : Int) (at_ : Nat) : Prop := at_ ≤ S.length ∧ (∀ j (h : j < S.length), j < at_ → S[j] < x) ∧ ∀ j (h : j < S.length), at_ ≤ j → x ≤ S[j]

def BinOut (S : List Int) (x : Int) (w : World) (e : Ending) (w' : World) : Prop := ∃ (p : Nat) (f : Bool), e = .returned (.tuple #[.int .i64 (p : Int), .bool f]) ∧ Low S x p ∧ w' = w

set_option maxRecDepth 100000 in
set_option maxHeartbeats 4000000 in
theorem bin_any (a : Option Addr) (cap b : Nat) (S : List Int) (x : Int) (w : World) (hS : S.Pairwise (· ≤ ·)) (hl : S.length ≤ 1099511627776) (ha : 0 < S.length → a = some ⟨b, 0, none⟩) (hc : ∀ j (h : j < S.length), w.cell? ⟨b, j, none⟩ = some (.int .u64 S[j])) :
    Calls Try.prog 50 #[.slice a S.length cap, .int .u64 x] w fun e w' => BinOut S x w e w' := by
  rw [List.pairwise_iff_getElem] at hS
  have HSR := Lib.hid (fun i j (hi : i < S.length) (hj : j < S.length) (h : i < j) => hS i j hi hj h)
  have HC := Lib.hid hc
  clear hS hc
  go_enter Try.func50, Try.ntmps50
  go_wp2_with fail
  go_loopw [7, 8] (fun i j wr => ∃ (p q : Nat), p ≤ q ∧ q ≤ S.length ∧ i = .int .i64 (p : Int) ∧ j = .int .i64 (q : Int) ∧ Hid (∀ k (h : k < S.length), k < p → S[k] < x) ∧ Hid (∀ k (h : k < S.length), q ≤ k → x ≤ S[k]) ∧ wr = w) (fun i j _ => (intOf j - intOf i).toNat)
  case atStart => exact ⟨0, S.length, Nat.zero_le _, Nat.le_refl _, rfl, rfl, Lib.hid (fun k h h2 => by omega), Lib.hid (fun k h h2 => by omega), rfl⟩
  case round =>
    obtain ⟨p, q, hpq, hq, rfl, rfl, HL, HR, rfl⟩ := hrel
    by_cases hlt : p < q
    · have hlt2 : (p : Int) < (q : Int) := by omega
      obtain ⟨M, hM⟩ := named (p + q)
      obtain ⟨H, hH⟩ := named (M / 2)
      have hw1 : IntKind.i64.wrap ((p : Int) + (q : Int)) = (M : Int) := by rw [IntKind.wrap_i64]; omega
      have hw2 : IntKind.u64.wrap (M : Int) = (M : Int) := by simp [IntKind.wrap, IntKind.signed, IntKind.bits]; omega
      have hw3 : (M : Int) / 2 = (H : Int) := by omega
      have hw4 : IntKind.i64.wrap (H : Int) = (H : Int) := by rw [IntKind.wrap_i64]; omega
      have hw4' : IntKind.u64.wrap (H : Int) = (H : Int) := by simp [IntKind.wrap, IntKind.signed, IntKind.bits]; omega
      have hw5 : IntKind.i64.wrap ((H : Int) + 1) = ((H + 1 : Nat) : Int) := by rw [IntKind.wrap_i64]; omega
      have hh : H < S.length := by omega
      have hidx : (0 : Int) ≤ (H : Int) ∧ (H : Int) < (S.length : Int) := by omega
      have haa := ha (by omega)
      subst haa
      have cH := HC.out H hh
      obtain ⟨Y, hY⟩ : ∃ Y, Y = S[H] := ⟨_, rfl⟩
      rw [← hY] at cH
      have HY := Lib.hid hY
      clear hY
      cases hL : ltInt Y x with
      | true =>
        have HLS := Lib.hid (show ∀ W, Calls Try.prog 72 #[.int .u64 Y, .int .u64 x] W fun e w' => e = .returned (.bool true) ∧ w' = W from fun W => by have h := less_any Y x W; rw [hL] at h; exact h)
        go_wp2_with (go_at_call 72; (with_reducible refine (HLS.out _).mono ?_); rintro e w1 ⟨rfl, rfl⟩)
        go_roundw
        case rel => exact ⟨H + 1, q, by omega, hq, by first | rfl | (simp; done) | go_num, rfl, Lib.hid (fun k h h2 => by
            have h1 : S[H] < x := by rw [← HY.out]; simpa [ltInt] using hL
            by_cases hk : k = H
            · subst hk; exact h1
            · have := HSR.out k H h hh (by omega)
              omega), HR, by first | rfl | trivial⟩
        case measure => simp [intOf]; omega
      | false =>
        have HLS := Lib.hid (show ∀ W, Calls Try.prog 72 #[.int .u64 Y, .int .u64 x] W fun e w' => e = .returned (.bool false) ∧ w' = W from fun W => by have h := less_any Y x W; rw [hL] at h; exact h)
        go_wp2_with (go_at_call 72; (with_reducible refine (HLS.out _).mono ?_); rintro e w1 ⟨rfl, rfl⟩)
        go_roundw
        case rel => exact ⟨p, H, by omega, by omega, rfl, rfl, HL, Lib.hid (fun k h h2 => by
            have h1 : x ≤ S[H] := by rw [← HY.out]; simpa [ltInt] using hL
            by_cases hk : k = H
            · subst hk; exact h1
            · have := HSR.out H k hh h (by omega)
              omega), by first | rfl | trivial⟩
        case measure => simp [intOf]; omega
    · have hlt2 : ¬ (p : Int) < (q : Int) := by omega
      obtain rfl : p = q := by omega
      have HLOW := Lib.hid (show Low S x p from ⟨hq, HL.out, HR.out⟩)
      by_cases hp : p < S.length
      · have hp2 : (p : Int) < (S.length : Int) := by omega
        have hidx : (0 : Int) ≤ (p : Int) ∧ (p : Int) < (S.length : Int) := by omega
        have haa := ha (by omega)
        subst haa
        have cP := HC.out p hp
        generalize S[p] = Y at cP
        cases hE : (Y == x)
        all_goals go_wp2_with (go_at_call 73; (with_reducible refine (nan2_any _ _).mono ?_); rintro e w1 ⟨rfl, rfl⟩)
        all_goals (first | go_ret2 | go_ret)
        all_goals exact ⟨p, _, rfl, HLOW.out, rfl⟩
      · have hp2 : ¬ (p : Int) < (S.length : Int) := by omega
        go_wp2_with fail
        (first | go_ret2 | go_ret)
        exact ⟨p, _, rfl, HLOW.out, rfl⟩

theorem low_any {S : List Int} {x y : Int} {p : Nat} (h : Low S x p) (hs : S.Pairwise (· ≤ ·)) : S.any (fun f => decide (x ≤ f) && decide (f < y)) = (if h : p < S.length then decide (S[p] < y) else false) := by
  rw [List.pairwise_iff_getElem] at hs
  obtain ⟨h1, h2, h3⟩ := h
  rw [Bool.eq_iff_iff, List.any_eq_true]
  constructor
  · rintro ⟨f, hf, hb⟩
    obtain ⟨j, hj, rfl⟩ := List.mem_iff_getElem.1 hf
    simp only [Bool.and_eq_true, decide_eq_true_eq] at hb
    have hpj : p ≤ j := Nat.le_of_not_lt fun hl => by have := h2 j hj hl; omega
    have hp : p < S.length := by omega
    rw [dif_pos hp, decide_eq_true_eq]
    by_cases he : p = j
    · subst he; exact hb.2
    · have := hs p j hp hj (by omega); omega
  · intro hb
    by_cases hp : p < S.length
    · rw [dif_pos hp, decide_eq_true_eq] at hb
      exact ⟨S[p], List.getElem_mem hp, by simp [h3 p hp (Nat.le_refl _), hb]⟩
    · rw [dif_neg hp] at hb; cases hb

set_option maxRecDepth 100000 in
theorem within_any (a : Option Addr) (cap b : Nat) (S : List Int) (x y : Int) (w : World) (hS : S.Pairwise (· ≤ ·)) (hl : S.length ≤ 1099511627776) (ha : 0 < S.length → a = some ⟨b, 0, none⟩) (hc : ∀ j (h : j < S.length), w.cell? ⟨b, j, none⟩ = some (.int .u64 S[j])) :
    Calls Try.prog 32 #[.slice a S.length cap, .int .u64 x, .int .u64 y] w fun e w' => e = .returned (.bool (S.any fun f => decide (x ≤ f) && decide (f < y))) ∧ w' = w := by
  have HB := Lib.hid (bin_any a cap b S x w hS hl ha hc)
  have HLA := Lib.hid (fun p (h : Low S x p) => low_any (y := y) h hS)
  have HC := Lib.hid hc
  obtain ⟨R, hR⟩ : ∃ R, R = S.any fun f => decide (x ≤ f) && decide (f < y) := ⟨_, rfl⟩
  rw [← hR]
  have HR := Lib.hid hR
  clear hR hc hS
  go_enter Try.func32, Try.ntmps32
  go_upto_region 2 with (go_at_call 50; (with_reducible refine (HB.out).mono ?_); rintro e w1 ⟨p, f, rfl, hp, rfl⟩)
  have hla := HLA.out p hp
  rw [← HR.out] at hla
  by_cases hlt : p < S.length
  · have hp2 : (p : Int) < (S.length : Int) := by omega
    have hidx : (0 : Int) ≤ (p : Int) ∧ (p : Int) < (S.length : Int) := by omega
    have haa := ha (by omega)
    subst haa
    have cP := HC.out p hlt
    rw [dif_pos hlt] at hla
    generalize S[p] = Y at cP hla
    have HE := Lib.hid hla
    clear hla hp hlt
    go_wp2_with fail
    go_ret
    exact ⟨by rw [HE.out]; rfl, rfl⟩
  · have hp2 : ¬ (p : Int) < (S.length : Int) := by omega
    rw [dif_neg hlt] at hla
    have HE := Lib.hid hla
    clear hla hp hlt
    go_wp2_with fail
    go_ret
    exact ⟨by rw [HE.out]; rfl, rfl⟩
end So6
end Go.Proofs.Ythcllaombabpbaa

/-
  tapestrylaw09: what is told by a sequence of pairs (pairs).
-/
namespace Go.Proofs.Ythcllaombabpbaa
open Go.RowKit Go.Shelf
set_option linter.unusedSimpArgs false
set_option linter.unusedVariables false
namespace Mg
open Mt (Ver mayB lessB placeB VerIn verV)
open Vs (Vers At vcs)
open Tb (ver0 getD_at own_after lower_row)

attribute [local go_sem] Oper.semAt_some
theorem cell_two_new (w : World) (a b : Value) (t : TypeId) : ∀ j u, [a, b][j]? = some u → (w.alloc (.cells #[a, b] t)).cell? ((⟨w.heap.size, 0, none⟩ : Addr).add j) = some u := by
  intro j u hj
  match j, hj with
  | 0, hj => simp at hj; subst hj; simp [Addr.add]
  | 1, hj => simp at hj; subst hj; simp [Addr.add]
  | (j + 2), hj => simp at hj
abbrev pEnc9 (x : Pr) : Array Value := #[.agg #[.string (Cd.bs x.1), .string (Cd.bs x.2)]]
/-- A FUNCTION VALUE THAT TELLS THIS LIST, wherever the blocks of T stand as they do. -/
def TellsP (w : World) (v : Value) (L : List Pr) (T : Sq.Blocks) : Prop :=
  ∃ (gf : Nat) (lb : Array Value), v = .func (.func gf) #[] lb ∧ (∀ args w, (callFunc gf args).run Try.prog w = .ok (.enter gf args) w) ∧ (∀ k, T k → k < w.heap.size) ∧
    ∀ W, Sq.Kept T w W → Sq.SeqC Fence.wide 11 Try.prog gf lb pEnc9 T (fun ys => ys = L) (fun pre => pre <+: L) W
theorem TellsP.kept {w w' : World} {v : Value} {L : List Pr} {T : Sq.Blocks} (h : TellsP w v L T) (hk : Sq.Kept T w w') : TellsP w' v L T := by
  obtain ⟨gf, lb, h1, h2, h3, h4⟩ := h
  exact ⟨gf, lb, h1, h2, fun k hk' => Nat.lt_of_lt_of_le (h3 k hk') hk.size, fun W hW => h4 W (hk.trans hW)⟩
/-- what stands between the rounds of such a range -/
def frP (w : World) (most : Int) (R : Sq.Blocks) (pre : List Pr) (X : World) : Prop :=
  ∃ u, ((Boxed X (w.heap.size + 1) 46 u ∧ ¬ R (w.heap.size + 1)) ∧ (X.ownsRow (w.heap.size + 2) 78 2 u pre.length (pcs pre) ∧ ∀ g, u.ownBlock = some g → ¬ R g)) ∧
    (Boxed X w.heap.size 3 (.int .i64 most) ∧ ¬ R w.heap.size) ∧ (Sq.Kept (fun k => k < w.heap.size) w X ∧ ∀ k, k < w.heap.size → k < w.heap.size → ¬ R k)
theorem frP_steady (w : World) (most : Int) : Sq.Steady (frP w most) :=
  Sq.Steady.ex fun u => ((Sq.Steady.box _ _ _).and (Sq.Steady.row _ _ _ (fun _ => u) _ _)).and ((Sq.Steady.box _ _ _).and (Sq.Steady.kept _ _))
/-- one more is told -/
theorem frP_next {w X X1 X2 : World} {most : Int} {R : Sq.Blocks} {pre : List Pr} {x : Pr} {u : Value} {g cap : Nat}
    (hb : Boxed X (w.heap.size + 1) 46 u) (hnb : ¬ R (w.heap.size + 1)) (hrow : X.ownsRow (w.heap.size + 2) 78 2 u pre.length (pcs pre)) (hnr : ∀ g, u.ownBlock = some g → ¬ R g)
    (hbn : Boxed X w.heap.size 3 (.int .i64 most)) (hnn : ¬ R w.heap.size) (hk : Sq.Kept (fun k => k < w.heap.size) w X) (hnk : ∀ k, k < w.heap.size → k < w.heap.size → ¬ R k)
    (hbd : ∀ k, R k → k < X.heap.size) {T : Sq.Blocks} (hT : ∀ k, T k → k < w.heap.size) (hX1 : Sq.Kept (fun _ => True) X X1) (hs1 : X1.heap.size = X.heap.size + 1)
    (hown2 : X2.ownsRow (w.heap.size + 2) 78 2 (.slice (some ⟨g, 0, none⟩) (pre.length + 1) cap) (pre.length + 1) (pcs pre ++ [.string (Cd.bs x.1), .string (Cd.bs x.2)]))
    (hgrow : X1.grownBy X2 u.ownBlock) (hat : u.ownBlock = some g ∨ g = X.heap.size + 1) :
    Boxed X2 (w.heap.size + 1) 46 u ∧ Boxed X2 w.heap.size 3 (.int .i64 most) ∧
    frP w most R (pre ++ [x]) (X2.setCell ⟨w.heap.size + 1, 0, none⟩ (.slice (some ⟨g, 0, none⟩) (pre.length + 1) cap)) ∧
    Sq.Kept (fun k => R k ∨ T k) X (X2.setCell ⟨w.heap.size + 1, 0, none⟩ (.slice (some ⟨g, 0, none⟩) (pre.length + 1) cap)) := by
  have hge : ∀ r, u.ownBlock = some r → w.heap.size + 2 ≤ r := fun r hr => (Ob.row_lt hrow hr).1
  have hKg : Sq.Kept (fun k => ∀ r, u.ownBlock = some r → k ≠ r) X1 X2 := Sq.Kept.grown hgrow (fun r hr h => h r hr rfl)
  have hK2 : Sq.Kept (fun k => ∀ r, u.ownBlock = some r → k ≠ r) X X2 := (hX1.less (fun _ _ _ => trivial)).trans hKg
  have hb2 := hK2.boxed (fun r hr e => by have := hge r hr; omega) hb
  have hbn2 := hK2.boxed (fun r hr e => by have := hge r hr; omega) hbn
  have hk2 : Sq.Kept (fun k => k < w.heap.size) w X2 := hk.trans (hK2.less (fun k hk _ r hr e => by have := hge r hr; have : k < w.heap.size := hk; omega))
  refine ⟨hb2, hbn2, ?_, ?_⟩
  · refine ⟨_, ⟨⟨hb2.set _, hnb⟩, ?_, ?_⟩, ⟨hbn2.other (by simp) _, hnn⟩, hk2.trans (Sq.Kept.setCell _ _ (by simp)), hnk⟩
    · rw [pcs_snoc, List.length_append, List.length_singleton]
      refine Ob.row_other hown2 (fun e => ?_) _
      have := (Ob.row_lt hown2 e).1
      simp at this
    · intro g' hg'
      obtain rfl : g = g' := by simpa [Value.ownBlock] using hg'
      rcases hat with h | h
      · exact hnr g h
      · intro hr; have := hbd g hr; omega
  · refine (hK2.less (fun k hk hl r hr e => ?_)).trans (Sq.Kept.setCell _ _ (by
      rintro (h | h)
      · exact hnb h
      · have := hT _ h; simp at this; omega))
    subst e
    rcases hk with h | h
    · exact hnr k hr h
    · have := hge k hr; have := hT k h; omega
/-- what is told, left behind so many -/
def cutP (L : List Pr) (most : Int) : List Pr := if 0 < most then L.take most.toNat else L

theorem cutP_all {L : List Pr} {most : Int} (h : most ≤ 0 ∨ (L.length : Int) < most) : cutP L most = L := by
  unfold cutP
  rcases h with h | h
  · rw [if_neg (by omega)]
  · rw [if_pos (by omega), List.take_of_length_le (by omega)]
theorem cutP_some {L pre : List Pr} {most : Int} (h : pre <+: L) (h0 : 0 < most) (hm : (pre.length : Int) = most) : cutP L most = pre := by
  unfold cutP
  rw [if_pos h0, show most.toNat = pre.length by omega]
  exact (List.prefix_iff_eq_take.1 h).symm

set_option maxRecDepth 100000 in
set_option maxHeartbeats 4000000 in
theorem pairsL_any (sv : Value) (most : Int) (L : List Pr) (T : Sq.Blocks) (w : World) (hm : -9223372036854775808 ≤ most ∧ most ≤ 9223372036854775807) (hL : L.length ≤ 1099511627776) (hS : TellsP w sv L T) :
    Calls Try.prog 17 #[sv, .int .i64 most] w fun e w' => ∃ u, e = .returned u ∧ w'.ownsRow w.heap.size 78 2 u (cutP L most).length (pcs (cutP L most)) ∧ Below w.heap.size w w' := by
  obtain ⟨i0, hi, hz0, hz1, hz2⟩ := info_parts info_Pair
  obtain ⟨gf, lb, rfl, hent, hTl, hsq⟩ := hS
  refine (callsIn_wide (n := 12)).1 ?_
  refine callsIn_of_wp_marks Try.func17 rfl trivial ?_ rfl
  refine wpIn_wide.2 ?_
  simp only [Try.ntmps17, List.size_toArray, List.length_cons, List.length_nil, Nat.reduceAdd, Nat.reduceSub, Array.replicate_succ, Array.replicate_zero, List.push_toArray, List.append_toArray, List.nil_append, List.cons_append]
  go_wp2_with fail
  have hB1 : Below w.heap.size w ((w.alloc (.cells #[.int .i64 most] 3)).alloc (.cells #[.slice none 0 0] 46)) := ((Below.refl _ _).alloc (Nat.le_refl _) _).alloc (by simp) _
  have bN : Boxed ((w.alloc (.cells #[.int .i64 most] 3)).alloc (.cells #[.slice none 0 0] 46)) w.heap.size 3 (.int .i64 most) := (Boxed.new w _ _).alloc _
  have bL : Boxed ((w.alloc (.cells #[.int .i64 most] 3)).alloc (.cells #[.slice none 0 0] 46)) (w.heap.size + 1) 46 (.slice none 0 0) := by
    have := Boxed.new (w.alloc (.cells #[.int .i64 most] 3)) 46 (.slice none 0 0)
    rwa [World.size_alloc] at this
  have hsq1 := hsq _ ((Sq.Kept.alloc T w (.cells #[.int .i64 most] 3)).trans (Sq.Kept.alloc T _ (.cells #[.slice none 0 0] 46)))
  generalize (w.alloc (.cells #[.int .i64 most] 3)).alloc (.cells #[.slice none 0 0] 46) = w1 at *
  have hsz1 := bL.lt
  refine (wpIn_wide (n := 12)).1 ?_
  refine Sq.wp_range rfl (by omega) (gf := gf) (lb := lb) rfl trivial hent
    hsq1 (fun k hk => by have := hTl k hk; omega) (fun _ => rfl)
    (fun R pre X => frP w most R pre X ∧ (most ≤ 0 ∨ (pre.length : Int) < most))
    (fun c R pre X => frP w most R pre X ∧ (c = .exit 0 ∧ 0 < most ∧ (pre.length : Int) = most))
    (fun a' x R pre X => (frP w most R pre X ∧ (most ≤ 0 ∨ (pre.length : Int) < most)) ∧ ∃ Bf, (X.heap[Bf]? = some (.cells #[.string (Cd.bs x.1), .string (Cd.bs x.2)] 78 (0, 0)) ∧ ¬ R Bf) ∧
      a' = { tmps := #[.func (.func gf) #[] lb, .int .i64 most, undef, .pointer (some ⟨w.heap.size, 0, none⟩), .slice none 0 0, .pointer (some ⟨w.heap.size + 1, 0, none⟩), .pointer (some ⟨Bf, 0, none⟩), .func (.func gf) #[] lb, .agg #[.string (Cd.bs x.1), .string (Cd.bs x.2)], undef, undef, undef, undef, undef, undef, undef, undef, undef], defers := [] })
    ((frP_steady w most).and (Sq.Steady.pure _))
    (fun c => (frP_steady w most).and (Sq.Steady.pure _))
    (fun a' x => ((frP_steady w most).and (Sq.Steady.pure _)).and (Sq.Steady.ex fun Bf => (Sq.Steady.obj _ _).and (fun _ _ _ _ _ hs _ => hs)))
    ⟨⟨_, ⟨⟨bL, fun h => h⟩, World.ownsRow_nil _ _ _ _, fun _ h => by simp [Value.ownBlock] at h⟩, ⟨bN, fun h => h⟩, ⟨hB1.os, hB1.tape, hB1.output, hB1.size, fun k hk _ => hB1.block k hk⟩, fun _ _ _ h => h⟩, by
      by_cases h : 0 < most
      · exact .inr h
      · exact .inl (by omega)⟩ ?assign ?body ?done ?stop
  case assign =>
    rintro lr R pre x X hbd hsp ⟨hI, hm⟩
    gi_wp2
    refine ⟨Sq.Kept.alloc _ _ _, ⟨frP_steady w most _ _ _ _ _ hI (Sq.Step.alloc0 _ _ _), hm⟩, X.heap.size, ⟨World.alloc_heap_new X _, fun h => by have := hbd _ h; omega⟩, ?_⟩
    first | rfl | trivial
  case body =>
    rintro lr R pre x a' X hRl hrec hbd hsp ⟨⟨hI, hm⟩, Bf, ⟨hf, hnf⟩, rfl⟩
    obtain ⟨u, ⟨⟨hb, hnb⟩, hrow, hnr⟩, ⟨hbn, hnn⟩, hk, hnk⟩ := hI
    have hcf0 : X.cell? ⟨Bf, 0, none⟩ = some (.string (Cd.bs x.1)) := by simp [World.cell?, hf]
    have hcf1 : X.cell? ⟨Bf, 1, none⟩ = some (.string (Cd.bs x.2)) := by simp [World.cell?, hf]
    have hc0 := hb.cell
    have hfl : pre.length + 1 ≤ L.length := by have := hsp.length_le; simpa using this
    have hX2 : w.heap.size + 2 ≤ X.heap.size := by have := (hbd lr hRl).1; have := (hbd lr hRl).2; omega
    have hPL : Hid (pre.length + 1 = (pre ++ [x]).length) := Lib.hid (by simp)
    have HNX := Lib.hid (fun X1 X2 g cap (h1 : Sq.Kept (fun _ => True) X X1) (h2 : X1.heap.size = X.heap.size + 1) h3 h4 h5 => frP_next (x := x) (X1 := X1) (X2 := X2) (g := g) (cap := cap) hb hnb hrow hnr hbn hnn hk hnk (fun k hk => (hbd k hk).2) hTl h1 h2 h3 h4 h5)
    have hrow' := hrow.alloc (.cells #[.string (Cd.bs x.1), .string (Cd.bs x.2)] 78)
    have HM := Lib.hid hm
    clear hb hnb hrow hnr hbn hnn hk hnk hm hsp
    by_cases hlast : (pre.length : Int) + 1 = most
    · have hl1 : ((pre.length : Int) + 1 == most) = true := by simpa using hlast
      have HL := Lib.hid hlast
      clear hlast
      gi_wp2_with (refine wpListIn_append_lies _ rfl _ _ 46 rfl (w.heap.size + 2) 78 i0 (.agg #[.string ⟨#[]⟩, .string ⟨#[]⟩]) 2 32 Try.underlying46 hi hz0 hz1 hz2 rfl (by decide) _ _ _ rfl hrow' ⟨X.heap.size, 0, none⟩ 1 1 [_, _] rfl rfl (by simpa using cell_two_new X _ _ _) (by simp [Value.oneCell']) (by decide) (by unfold maxLen; omega) (by omega) (by simp; omega) (X.heap.size + 1) (by simp) ?_; intro g cap X2 hown2 hgrow hat hlt2; obtain ⟨z1, z2, z3, z4⟩ := HNX.out _ X2 g cap (Sq.Kept.alloc _ _ _) (by simp) hown2 hgrow hat; have Z3 := Lib.hid z3; have Z4 := Lib.hid z4; have q1 := z1.cell; have q2 := z1.frozen; have q3 := z1.lt; have q4 := z2.cell; clear z1 z2 z3 z4 hown2 hgrow hat)
      exact ⟨Z4.out, Z3.out, rfl, by have := HL.out; omega, by rw [← hPL.out]; have := HL.out; omega⟩
    · have hl1 : ((pre.length : Int) + 1 == most) = false := by simpa using hlast
      have HL := Lib.hid hlast
      clear hlast
      gi_wp2_with (refine wpListIn_append_lies _ rfl _ _ 46 rfl (w.heap.size + 2) 78 i0 (.agg #[.string ⟨#[]⟩, .string ⟨#[]⟩]) 2 32 Try.underlying46 hi hz0 hz1 hz2 rfl (by decide) _ _ _ rfl hrow' ⟨X.heap.size, 0, none⟩ 1 1 [_, _] rfl rfl (by simpa using cell_two_new X _ _ _) (by simp [Value.oneCell']) (by decide) (by unfold maxLen; omega) (by omega) (by simp; omega) (X.heap.size + 1) (by simp) ?_; intro g cap X2 hown2 hgrow hat hlt2; obtain ⟨z1, z2, z3, z4⟩ := HNX.out _ X2 g cap (Sq.Kept.alloc _ _ _) (by simp) hown2 hgrow hat; have Z3 := Lib.hid z3; have Z4 := Lib.hid z4; have q1 := z1.cell; have q2 := z1.frozen; have q3 := z1.lt; have q4 := z2.cell; clear z1 z2 z3 z4 hown2 hgrow hat)
      exact ⟨Z4.out, Z3.out, by rw [← hPL.out]; have := HL.out; rcases HM.out with h | h; exact .inl h; exact .inr (by omega)⟩
  case done =>
    rintro D R ys X hD hRD rfl ⟨hI, hm⟩ hdf
    obtain ⟨u, ⟨⟨hb, hnb⟩, hrow, hnr⟩, ⟨hbn, hnn⟩, hk, hnk⟩ := hI
    have HC := Lib.hid (cutP_all hm)
    have hc0 := hb.cell
    have HR := Lib.hid (Sq.row_kept (row_lower hrow (by omega : w.heap.size ≤ w.heap.size + 2)) (Sq.Kept.putObj (T := fun k => k ≠ D) X (l := D) (.deferred none) (by simp)) (fun g hg e => hnr g hg (e ▸ hRD)))
    have HB := Lib.hid ((hk.trans (Sq.Kept.putObj X (l := D) (.deferred none) (by omega))).below (fun _ h => h) (Nat.le_refl _))
    clear hb hrow hk hnk hbn hm hnr
    gi_wp2
    go_wp2_with fail
    refine ⟨by simp, .inl ⟨_, _, rfl, run_takeDeferred hdf, ?_⟩⟩
    exact ⟨_, results_tmp rfl _ _ _, u, rfl, by rw [HC.out]; exact HR.out, HB.out⟩
  case stop =>
    rintro D R c pre X hD hRD hsp ⟨hI, rfl, hm0, hm⟩ hdf
    obtain ⟨u, ⟨⟨hb, hnb⟩, hrow, hnr⟩, ⟨hbn, hnn⟩, hk, hnk⟩ := hI
    have HC := Lib.hid (cutP_some hsp hm0 hm)
    have hc0 := hb.cell
    have HR := Lib.hid (Sq.row_kept (row_lower hrow (by omega : w.heap.size ≤ w.heap.size + 2)) (Sq.Kept.putObj (T := fun k => k ≠ D) X (l := D) (.deferred none) (by simp)) (fun g hg e => hnr g hg (e ▸ hRD)))
    have HB := Lib.hid ((hk.trans (Sq.Kept.putObj X (l := D) (.deferred none) (by omega))).below (fun _ h => h) (Nat.le_refl _))
    clear hb hrow hk hnk hbn hm hnr
    gi_wp2
    go_wp2_with fail
    refine ⟨by simp, .inl ⟨_, _, rfl, run_takeDeferred hdf, ?_⟩⟩
    exact ⟨_, results_tmp rfl _ _ _, u, rfl, by rw [HC.out]; exact HR.out, HB.out⟩
end Mg
end Go.Proofs.Ythcllaombabpbaa

/-
  Chapter 9: what the program owes; the law MergePairs over it.
-/
namespace Go.Proofs.Ythcllaombabpbaa
open Go.RowKit
set_option linter.unusedSimpArgs false
set_option linter.unusedVariables false
namespace Mg
open Mt (Ver mayB lessB placeB VerIn verV)
open Vs (Vers At VersIn vcs)
open Tb (ver0 getD_at own_after lower_row)

/-- of a row: tells what is seen -/
def PairsOk : Prop := ∀ (sv : Value) (L : List Ver) (T : Sq.Blocks) (seq : Int) (lo hi : List UInt8) (w : World), Tells w sv L T → (∀ x ∈ L, VerIn x) → L.length ≤ 1048576 → (0 ≤ seq ∧ seq ≤ 18446744073709551615) → lo.length ≤ 1048576 → hi.length ≤ 1048576 →
    Calls Try.prog 18 #[sv, .int .u64 seq, .string (Cd.bs lo), .string (Cd.bs hi)] w fun e w' => ∃ u T', e = .returned u ∧ TellsP w' u (pairs L seq lo hi) T' ∧ Below w.heap.size w w'

theorem TellsP.below {w w' : World} {v : Value} {L : List Pr} {T : Sq.Blocks} (h : TellsP w v L T) (hb : Below w.heap.size w w') : TellsP w' v L T := TellsP.kept h (Sq.Kept.of_below hb)
theorem Tells.below {w w' : World} {v : Value} {L : List Ver} {T : Sq.Blocks} (h : Tells w v L T) (hb : Below w.heap.size w w') : Tells w' v L T := Tells.kept h (Sq.Kept.of_below hb)
theorem Prs.take {B : Nat} {W : World} {a : Option Addr} {cap : Nat} {L : List Pr} (h : Prs B W (.slice a L.length cap) L) (n : Nat) (hn : n ≤ L.length) : Prs B W (.slice a n cap) (L.take n) := by
  obtain ⟨a', cap', b, off, h1, h2, h3⟩ := h
  injection h1 with e1 e2 e3
  subst e1 e3
  have hl : (L.take n).length = n := by simp; omega
  exact ⟨_, _, b, off, by rw [hl], fun h => h2 (by omega), fun j hj => by rw [List.getElem_take]; exact h3 j (by omega)⟩
theorem pairs_len (L : List Ver) (seq : Int) (lo hi : List UInt8) : (pairs L seq lo hi).length ≤ L.length := by
  unfold pairs
  have h1 := prN_len seq lo (below L hi) (below L hi).length
  have h2 : (below L hi).length ≤ L.length := by
    unfold below
    exact (List.takeWhile_sublist _).length_le
  omega
def PrPost (wA : World) (P : List Pr) (r : Value) (wx : World) : Prop := (∃ T, TellsP wx r P T) ∧ Below wA.heap.size wA wx

end Mg
end Go.Proofs.Ythcllaombabpbaa
/-
  Chapter 9: the law MergeKeeps over what the program owes.
-/
namespace Go.Proofs.Ythcllaombabpbaa
open Go.RowKit
set_option linter.unusedSimpArgs false
set_option linter.unusedVariables false
namespace Mg
open Mt (Ver mayB lessB placeB VerIn verV)
open Vs (Vers At VersIn vcs)
open Tb (ver0 getD_at own_after lower_row)

/-- of a row, floors, whether it is the bottom: tells what somebody may still see; the floors may change then -/
def KeepOk : Prop := ∀ (sv : Value) (L : List Ver) (T : Sq.Blocks) (fv : Value) (fl : List Int) (bt : Bool) (w : World), Tells w sv L T → (∀ x ∈ L, VerIn x) → L.length ≤ 1048576 → Us w.heap.size w fv fl → (∀ x ∈ fl, 0 ≤ x ∧ x ≤ 18446744073709551615) → fl.length ≤ 1048576 →
    Calls Try.prog 12 #[sv, fv, .bool bt] w fun e w' => ∃ u T', e = .returned u ∧ Tells w' u (keep L fl bt) T' ∧ (∀ k, T' k → T k ∨ w.heap.size ≤ k) ∧ Below w.heap.size w w'
/-- of no row: tells nothing -/
def KeepNilOk : Prop := ∀ (fv : Value) (fl : List Int) (bt : Bool) (w : World), Us w.heap.size w fv fl → (∀ x ∈ fl, 0 ≤ x ∧ x ≤ 18446744073709551615) → fl.length ≤ 1048576 →
    Calls Try.prog 12 #[.nilFunc, fv, .bool bt] w fun e w' => ∃ u T', e = .returned u ∧ Tells w' u [] T' ∧ Below w.heap.size w w'

theorem cutL_max (L : List Ver) (most : Int) : cutL L (max most 0) = cutL L most := by
  unfold cutL
  by_cases h : 0 < most
  · rw [show max most 0 = most by omega]
  · rw [show max most 0 = 0 by omega, if_neg (by omega), if_neg h]
set_option maxHeartbeats 1000000 in
/-- the first ones of a list -/
theorem head_any (a : Option Addr) (cap : Nat) (L : List Ver) (most : Int) (B : Nat) (w : World) (hV : Vers B w (.slice a L.length cap) L) (hcl : L.length ≤ cap) (hm : -9223372036854775808 ≤ most ∧ most ≤ 9223372036854775807) (hL : L.length ≤ 1099511627776) :
    Calls Try.prog 11 #[.slice a L.length cap, .int .i64 most] w fun e w' => e = .returned (.slice a (cutL L most).length cap) ∧ w' = w := by
  obtain ⟨a', cap', fb, fo, hsl, ha, hcells⟩ := hV
  injection hsl with e1 e2 e3
  subst e1 e3
  clear hcells
  go_enter Try.func11, Try.ntmps11
  by_cases h0 : 0 < most
  · by_cases h1 : most < (L.length : Int)
    · obtain ⟨n, rfl⟩ : ∃ n : Nat, most = (n : Int) := ⟨most.toNat, by omega⟩
      have hE := Lib.hid (show cutL L (n : Int) = L.take n by unfold cutL; rw [if_pos h0, Int.toNat_natCast])
      have hn : n ≤ L.length := by omega
      go_wp2_with fail
      go_ret
      exact ⟨by rw [hE.out, List.length_take, Nat.min_eq_left hn]; rfl, rfl⟩
    · have hE := Lib.hid (show cutL L most = L by unfold cutL; rw [if_pos h0, List.take_of_length_le (by omega)])
      go_wp2_with fail
      go_ret
      exact ⟨by rw [hE.out]; rfl, rfl⟩
  · have hE := Lib.hid (show cutL L most = L by unfold cutL; rw [if_neg h0])
    go_wp2_with fail
    go_ret
    exact ⟨by rw [hE.out]; rfl, rfl⟩

theorem vers_cut {a : Option Addr} {cap : Nat} {L : List Ver} (most : Int) {B : Nat} {w : World} (hV : Vers B w (.slice a L.length cap) L) : Vers B w (.slice a (cutL L most).length cap) (cutL L most) := by
  obtain ⟨a', cap', fb, fo, hsl, ha, hcells⟩ := hV
  injection hsl with e1 e2 e3
  subst e1 e3
  unfold cutL
  split
  · exact ⟨a, cap, fb, fo, rfl, fun h' => ha (by rw [List.length_take] at h'; omega), fun j hj => by rw [List.getElem_take]; exact hcells j (by rw [List.length_take] at hj; omega)⟩
  · exact ⟨a, cap, fb, fo, rfl, ha, hcells⟩

theorem info_u64 : (Try.prog.info? 39).map (fun i => (i.zero, i.size, i.bytes)) = some (some (.int .u64 0), 1, 8) := by kernel_rfl
def uc (l : List Int) : List Value := l.map fun x => .int .u64 x
theorem uc_len (l : List Int) : (uc l).length = l.length := by simp [uc]
theorem uc_set (l : List Int) (k : Nat) (x : Int) : (uc l).set k (.int .u64 x) = uc (l.set k x) := by simp [uc, List.map_set]
theorem made_u64 (n : Nat) : (madeCells (Value.int .u64 0).cells (n * 1)).toList = List.replicate n (.int .u64 0) := by
  rw [show (Value.int .u64 0).cells = #[Value.int .u64 0] from rfl, Nat.mul_one, toList_madeCells_one]
theorem splice_allU (n : Nat) (l : List Value) (h : l.length = n) : splice (List.replicate n (.int .u64 0)) 0 l = l := by
  unfold splice
  simp [h]
theorem row_wholeU {W : World} {base g n : Nat} {e : TypeId} {xs : List Value} (h : W.ownsRow base e 1 (.slice (some ⟨g, 0, none⟩) n n) n xs) : W.heap[g]? = some (.cells xs.toArray e (0, 0)) := by
  rcases h.2 with ⟨h1, _⟩ | ⟨g', cap', cur, h1, _, h3, _, _, h6, h7⟩
  · simp at h1
  · simp at h1
    obtain ⟨rfl, rfl⟩ := h1
    have : cur.toList = xs := by rw [← h7, List.take_of_length_le (by simp [h6])]
    rw [h3, ← this]
theorem us_src {B : Nat} {W : World} {a : Option Addr} {cap : Nat} {l : List Int} (h : Us B W (.slice a l.length cap) l) (g : Nat) :
    0 < (uc l).length → (some (⟨g, 0, none⟩ : Addr)) = some ⟨g, 0, none⟩ ∧ ∃ ad, a = some ad ∧ ∀ j v, (uc l)[j]? = some v → W.cell? (ad.add j) = some v := by
  intro h0
  rw [uc_len] at h0
  obtain ⟨a', cap', b, off, hv, ha, hc⟩ := h
  simp only [Value.slice.injEq, true_and] at hv
  obtain ⟨rfl, rfl⟩ := hv
  refine ⟨rfl, ⟨b, off, none⟩, (ha h0).1, fun j v hj => ?_⟩
  have hj' : j < l.length := by have := (List.getElem?_eq_some_iff.1 hj).1; rwa [uc_len] at this
  have hp : (⟨b, off, none⟩ : Addr).add j = ⟨b, off + j, none⟩ := by unfold Addr.add; split <;> simp_all
  rw [hp, hc j hj']
  simpa [uc, hj'] using hj
theorem Us.below {B : Nat} {W W' : World} {v : Value} {l : List Int} (h : Us B W v l) (hb : Below B W W') : Us B W' v l := by
  obtain ⟨a, cap, b, off, h1, h2, h3⟩ := h
  exact ⟨a, cap, b, off, h1, h2, fun j hj => (hb.cell (p := ⟨b, off + j, none⟩) (h2 (by omega)).2).trans (h3 j hj)⟩
theorem Us.grow {B B' : Nat} {W W' : World} {v : Value} {l : List Int} (h : Us B W v l) (hb : Below B W W') (hB : B ≤ B') : Us B' W' v l := by
  obtain ⟨a, cap, b, off, h1, h2, h3⟩ := h.below hb
  exact ⟨a, cap, b, off, h1, fun h => ⟨(h2 h).1, Nat.lt_of_lt_of_le (h2 h).2 hB⟩, h3⟩
theorem us_of_own {W : World} {B n : Nat} {te : TypeId} {v : Value} {l : List Int} (hn : n = l.length) (h : W.ownsRow B te 1 v n (uc l)) : Us W.heap.size W v l := by
  subst hn
  obtain ⟨a, cap, b, rfl, _, _, h3⟩ := Gn.row_at h
  refine ⟨a, cap, b, 0, rfl, fun h => ⟨(h3 h).1, (h3 h).2.2.1⟩, fun j hj => ?_⟩
  obtain ⟨_, _, _, hc⟩ := h3 (by omega)
  have := hc j (by omega)
  rw [Nat.zero_add]
  rw [this]
  simp [uc, hj]

theorem keep_len (L : List Ver) (fl : List Int) (bt : Bool) : (keep L fl bt).length ≤ L.length :=
  kpF_len fl bt L L.length
def KpPost (w w2 : World) (K : List Ver) (r : Value) (wx : World) : Prop := (∃ T, Tells wx r K T ∧ ∀ k, T k → k < w.heap.size ∨ w2.heap.size ≤ k) ∧ Below w2.heap.size w2 wx

set_option maxRecDepth 100000 in
set_option maxHeartbeats 4000000 in
theorem mergeKeeps_walk (KO : KeepOk) (KN : KeepNilOk) (lv fv : Value) (L : List Ver) (fl : List Int) (bt : Bool) (most : Int) (w : World) (hV : VersIn w lv L) (hF : Us w.heap.size w fv fl) (hf0 : ∀ x ∈ fl, 0 ≤ x ∧ x ≤ 18446744073709551615) (hfl : fl.length ≤ 1048576) (hm0 : -9223372036854775808 ≤ most) (hm1 : most ≤ 9223372036854775807) :
    Calls Try.prog 4 #[.agg #[lv, fv, .bool bt, .int .i64 most]] w fun e w' => e = .returned (.bool true) ∧ Below w.heap.size w w' := by
  have hmany := hV.many
  have HVV := Lib.hid hV
  have HFF := Lib.hid hF
  obtain ⟨la, lcap, lb, loff, hlv, _⟩ := hV.vers
  subst hlv
  obtain ⟨fa, fcap, fb, foff, hfv, _⟩ := hF
  subst hfv
  obtain ⟨wA, hwA⟩ : ∃ wA, w.alloc (.cells #[.slice la L.length lcap, .slice fa fl.length fcap, .bool bt, .int .i64 most] 36) = wA := ⟨_, rfl⟩
  have bA : Below w.heap.size w wA := by rw [← hwA]; exact (Below.refl _ _).alloc (Nat.le_refl _) _
  have oA : Ob.Obj wA w.heap.size 36 [.slice la L.length lcap, .slice fa fl.length fcap, .bool bt, .int .i64 most] := by rw [← hwA]; exact Ob.Obj.new w _ _
  have HZA := Lib.hid (show wA.heap.size = w.heap.size + 1 by rw [← hwA]; simp)
  have a0 := oA.cell 0
  have a1 := oA.cell 1
  have a2 := oA.cell 2
  have a3 := oA.cell 3
  simp at a0 a1 a2 a3
  have hlA := oA.lt
  have HWA := Lib.hid hwA
  clear hwA
  obtain ⟨i0, hi0, hz0, hz1, hz2⟩ := info_parts info_u64
  go_enter Try.func4, Try.ntmps4
  have hinfo : (Try.prog.info? 39).map (·.size) = some 1 := by rw [hi0]; simp [hz1]
  have HFA := Lib.hid (HFF.out.grow bA bA.size)
  go_wp2_with (first
    | (rw [HWA.out]; refine wpList_make_full _ (by rfl) _ _ 34 (by rfl) wA.heap.size 39 i0 (.int .u64 0) 1 Try.underlying34 hi0 hz0 hz1 .i64 .i64 (fl.length : Int) (fl.length : Int) fl.length (by rfl) (by rfl) rfl rfl (by rw [hz2]; omega) (by unfold maxLen; omega) (Nat.le_refl _) ?_; intro w1 hown hgrow; rw [made_u64] at hown; have b1 : Below wA.heap.size wA w1 := (Below.refl _ _).grown hgrow (Nat.le_refl _) (fun k hk => by cases hk); have hg1 := row_wholeU hown; have a1b := (b1.cell (p := ⟨w.heap.size, 1, none⟩) hlA).trans a1)
    | (refine wpList_copy_splice (by rfl) _ _ _ _ (by rfl) 39 Try.underlying34 hinfo (some ⟨wA.heap.size, 0, none⟩) fa fl.length fl.length fl.length fcap (by rfl) (by rfl) wA.heap.size 0 (List.replicate fl.length (.int .u64 0)) 39 hg1 (uc fl) (by rw [uc_len]; simp) (us_src (HFA.out.grow b1 b1.size) wA.heap.size) (by rw [uc_len]; simp) (fun v hv => by obtain ⟨x, _, rfl⟩ := List.mem_map.1 hv; rfl) wA.heap.size wA b1 (Nat.le_refl _) ?_; intro w2 hg2 b2; have hg2' := hg2.out; rw [splice_allU _ _ (uc_len fl)] at hg2'))
  have hz2' : wA.heap.size < w2.heap.size := by
    rcases Nat.lt_or_ge wA.heap.size w2.heap.size with h | h
    · exact h
    · rw [Array.getElem?_eq_none h] at hg2'; cases hg2'
  have how : w2.ownsRow wA.heap.size 39 1 (.slice (some ⟨wA.heap.size, 0, none⟩) fl.length fl.length) fl.length (uc fl) :=
    ⟨by rw [uc_len, Nat.mul_one], .inr ⟨wA.heap.size, fl.length, (uc fl).toArray, rfl, Nat.le_refl _, hg2', Nat.le_refl _, by unfold maxLen; omega, by simp [uc_len], by rw [List.take_of_length_le (by simp [uc_len])]⟩⟩
  have B2 := bA.trans (b2.mono bA.size)
  have HU2 := Lib.hid (show Us w2.heap.size w2 (.slice (some ⟨wA.heap.size, 0, none⟩) fl.length fl.length) fl from us_of_own rfl how)
  have HOW := Lib.hid (show w2.ownsRow wA.heap.size 39 1 (.slice (some ⟨wA.heap.size, 0, none⟩) fl.length fl.length) fl.length (uc fl) from how)
  have c0 := (b2.cell (p := ⟨w.heap.size, 0, none⟩) hlA).trans a0
  have c2 := (b2.cell (p := ⟨w.heap.size, 2, none⟩) hlA).trans a2
  have hl2 : w.heap.size < w2.heap.size := by omega
  have HROW := Lib.hid (fun W (h : Below w2.heap.size w2 W ∧ W.cell? ⟨w.heap.size, 0, none⟩ = some (.slice la L.length lcap) ∧ W.cell? ⟨w.heap.size, 2, none⟩ = some (.bool bt)) => (row_anyT (.slice la L.length lcap) L w.heap.size W (HVV.out.vers.below (B2.trans (h.1.mono B2.size))) (Nat.le_trans B2.size h.1.size) (by omega)).mono (R' := fun e w' => ∃ u T, e = .returned u ∧ Tells w' u L T ∧ (∀ k, T k → k < w.heap.size ∨ w2.heap.size ≤ k) ∧ Below W.heap.size W w') (by
    rintro e w' ⟨u, T, h1, h2, h3, h4⟩
    exact ⟨u, T, h1, h2, fun k hk => (h3 k hk).imp id (Nat.le_trans h.1.size), h4⟩))
  have HKO := Lib.hid (fun sv T W (h : Tells W sv L T) (hd : ∀ k, T k → k < w.heap.size ∨ w2.heap.size ≤ k) (h2 : Below w2.heap.size w2 W ∧ W.cell? ⟨w.heap.size, 0, none⟩ = some (.slice la L.length lcap) ∧ W.cell? ⟨w.heap.size, 2, none⟩ = some (.bool bt)) => (KO sv L T (.slice (some ⟨wA.heap.size, 0, none⟩) fl.length fl.length) fl bt W h HVV.out.each hmany (HU2.out.grow h2.1 h2.1.size) hf0 hfl).mono (R' := fun e w' => ∃ u T', e = .returned u ∧ Tells w' u (keep L fl bt) T' ∧ (∀ k, T' k → k < w.heap.size ∨ w2.heap.size ≤ k) ∧ Below W.heap.size W w') (by
    rintro e w' ⟨u, T', h3, h4, h5, h6⟩
    exact ⟨u, T', h3, h4, fun k hk => (h5 k hk).elim (hd k) (fun h => .inr (Nat.le_trans h2.1.size h)), h6⟩))
  have HKR := Lib.hid (fun W (h : Below w.heap.size w W) => keepR9_any (.slice la L.length lcap) (.slice fa fl.length fcap) fl bt L W (HVV.out.vers.grow h h.size) (HFF.out.grow h h.size) hmany hfl)
  have HKN := Lib.hid (fun ys W (h : Us W.heap.size W (.slice (some ⟨wA.heap.size, 0, none⟩) fl.length fl.length) ys) h2 h3 => KN (.slice (some ⟨wA.heap.size, 0, none⟩) fl.length fl.length) ys bt W h h2 h3)
  have hkl : (keep L fl bt).length ≤ L.length := keep_len L fl bt
  generalize keep L fl bt = K at *
  clear KO KN hg1 hg2' how hown b1
  simp only [uc_len, Act.put, Array.set!_eq_setIfInBounds, List.setIfInBounds_toArray, List.set_cons_succ, List.set_cons_zero]
  go_cut [4] from 18 to 24 (fun r wx => KpPost w w2 K r wx)
  case first =>
    have HS0 := Lib.hid (show Below w2.heap.size w2 w2 ∧ w2.cell? ⟨w.heap.size, 0, none⟩ = some (.slice la L.length lcap) ∧ w2.cell? ⟨w.heap.size, 2, none⟩ = some (.bool bt) from ⟨Below.refl _ _, c0, c2⟩)
    have HS1 := Lib.hid (show Below w2.heap.size w2 w2.drew ∧ w2.drew.cell? ⟨w.heap.size, 0, none⟩ = some (.slice la L.length lcap) ∧ w2.drew.cell? ⟨w.heap.size, 2, none⟩ = some (.bool bt) from ⟨(Below.refl _ _).drew, c0, c2⟩)
    have NX := Lib.hid (fun W W' (h : Below w2.heap.size w2 W ∧ W.cell? ⟨w.heap.size, 0, none⟩ = some (.slice la L.length lcap) ∧ W.cell? ⟨w.heap.size, 2, none⟩ = some (.bool bt)) (hb : Below W.heap.size W W') => show Below w2.heap.size w2 W' ∧ W'.cell? ⟨w.heap.size, 0, none⟩ = some (.slice la L.length lcap) ∧ W'.cell? ⟨w.heap.size, 2, none⟩ = some (.bool bt) from
      have h7 : Below w2.heap.size w2 W' := h.1.trans (hb.mono h.1.size)
      ⟨h7, (h7.cell (p := ⟨w.heap.size, 0, none⟩) hl2).trans c0, (h7.cell (p := ⟨w.heap.size, 2, none⟩) hl2).trans c2⟩)
    clear a0 a1 a2 a3 a1b c0 c2
    go_region_held3 (fun W => Below w2.heap.size w2 W ∧ W.cell? ⟨w.heap.size, 0, none⟩ = some (.slice la L.length lcap) ∧ W.cell? ⟨w.heap.size, 2, none⟩ = some (.bool bt))
      (first | exact HS0.out | exact HS1.out | exact NX.out _ _ (by assumption) hb9)
      (first
      | (go_at_call 13; (with_reducible refine (HROW.out _ (by assumption)).mono ?_); rintro e w9 ⟨u9, T9, rfl, ht9, hd9, hb9⟩)
      | (go_at_call 12; (with_reducible refine (HKO.out _ _ _ ht9 hd9 (by assumption)).mono ?_); rintro e w9 ⟨u8, T8, rfl, ht8, hd8, hb9⟩))
    go_wp2_with fail
    go_meet
    exact ⟨⟨_, ht8, hd8⟩, (show Below w2.heap.size w2 _ ∧ _ from by assumption).1⟩
  case rest =>
    obtain ⟨⟨T, hT, hTd⟩, hbd⟩ := hcut
    have HD := Lib.hid hTd
    have HB0 := Lib.hid (b2.trans (hbd.mono b2.size))
    have HO := Lib.hid (own_after HOW.out hbd)
    have HA := Lib.hid (show wA.cell? ⟨w.heap.size, 0, none⟩ = some (.slice la L.length lcap) ∧ wA.cell? ⟨w.heap.size, 1, none⟩ = some (.slice fa fl.length fcap) ∧ wA.cell? ⟨w.heap.size, 2, none⟩ = some (.bool bt) ∧ wA.cell? ⟨w.heap.size, 3, none⟩ = some (.int .i64 most) from ⟨a0, a1, a2, a3⟩)
    clear a0 a1 a2 a3 a1b c0 c2 hTd hbd HROW HKO
    go_wp2_with fail
    go_loopw [5] (fun iv wr => ∃ (q : Nat) (ys : List Int), q ≤ fl.length ∧ iv = .int .i64 (q : Int) ∧ ys.length = fl.length ∧ (∀ y ∈ ys, 0 ≤ y ∧ y ≤ 18446744073709551615) ∧ wr.ownsRow wA.heap.size 39 1 (.slice (some ⟨wA.heap.size, 0, none⟩) fl.length fl.length) fl.length (uc ys) ∧ Tells wr u4 K T ∧ Below wA.heap.size wA wr) (fun iv _ => fl.length - (intOf iv).toNat)
    case atStart => exact ⟨0, fl, Nat.zero_le _, rfl, rfl, hf0, HO.out, hT, HB0.out⟩
    case round =>
      obtain ⟨q, ys, hq, rfl, hys, hyr, own, hTr, hB⟩ := hrel
      by_cases hlt : q < fl.length
      · have hxl : (uc ys).length = fl.length := by rw [uc_len, hys]
        obtain ⟨cv, hcell⟩ : ∃ cv, wr.cell? ⟨wA.heap.size, q, none⟩ = some cv := ⟨_, (own.cellAt q (by omega)).trans (List.getElem?_eq_getElem (by omega))⟩
        have hfr := own.frozenAt q
        have hi1 : (0 : Int) ≤ (q : Int) ∧ (q : Int) < (fl.length : Int) := by omega
        have HST := Lib.hid (uc_set ys q 5 ▸ (World.ownsRow.stored own q (.int .u64 5)).1)
        have HT2 := Lib.hid (hTr.kept (Sq.Kept.setCell (T := T) wr (p := ⟨wA.heap.size, q, none⟩) (.int .u64 5) (fun hs => by have h1 := HD.out wA.heap.size hs; have h2 := HZA.out; omega)))
        have HB2 := Lib.hid (hB.setCell (p := ⟨wA.heap.size, q, none⟩) (Nat.le_refl _) (.int .u64 5))
        have HY := Lib.hid (show ∀ y ∈ ys.set q 5, 0 ≤ y ∧ y ≤ 18446744073709551615 from fun y hy => by
          rcases List.mem_or_eq_of_mem_set hy with h | rfl
          · exact hyr y h
          · omega)
        have HYL := Lib.hid (show (ys.set q 5).length = fl.length by simpa using hys)
        clear own hTr hB hxl hys hyr
        go_wp2_with fail
        go_roundw
        case rel => exact ⟨q + 1, _, by omega, by go_num, HYL.out, HY.out, HST.out, HT2.out, HB2.out⟩
        case measure => simp [intOf]; omega
      · obtain rfl : q = fl.length := by omega
        obtain ⟨e0, e1, e2, e3⟩ := HA.out
        have e0' := (hB.cell (p := ⟨w.heap.size, 0, none⟩) hlA).trans e0
        have e1' := (hB.cell (p := ⟨w.heap.size, 1, none⟩) hlA).trans e1
        have e2' := (hB.cell (p := ⟨w.heap.size, 2, none⟩) hlA).trans e2
        have e3' := (hB.cell (p := ⟨w.heap.size, 3, none⟩) hlA).trans e3
        have hBw := bA.trans (hB.mono bA.size)
        have hlr : w.heap.size < wr.heap.size := by have := hB.size; omega
        clear e0 e1 e2 e3
        go_wp2_with (go_at_call 14; (with_reducible refine (HKR.out _ hBw).mono ?_); rintro e w4 ⟨v4, rfl, hown4, hb4⟩; obtain ⟨pa, pcap, rfl, hpg⟩ := Sq.row_cases hown4; have hpc := row_cap hown4; have f2 := (hb4.cell (p := ⟨w.heap.size, 2, none⟩) hlr).trans e2'; have f3 := (hb4.cell (p := ⟨w.heap.size, 3, none⟩) hlr).trans e3')
        have hB4 := hBw.trans (hb4.mono hBw.size)
        have hl4 : w.heap.size < w4.heap.size := by have := hb4.size; omega
        have HV4 := Lib.hid (Vs.vers_of_own hown4)
        have HT4 := Lib.hid (hTr.below hb4)
        have HU4 := Lib.hid ((us_of_own hys.symm own).grow hb4 hb4.size)
        have HYR := Lib.hid hyr
        have HYS := Lib.hid hys
        have HLI := Lib.hid (fun m W (hm : -9223372036854775808 ≤ m ∧ m ≤ 9223372036854775807) (h : Below w4.heap.size w4 W) => list_any u4 m K T W hm (by omega) (HT4.out.below h))
        have HLN := Lib.hid (fun sv T W (h : Tells W sv [] T) => list_any sv 0 [] T W (by omega) (by simp) h)
        have HSM := Lib.hid (fun u v L' W (h1 : Vers W.heap.size W u L') (h2 : Vers W.heap.size W v L') (h3 : L'.length ≤ 4611686018427387904) => Mt.sameR_eq u v L' W h1 h2 h3)
        have hcu := vers_cut most HV4.out
        have hc0 : cutL K 0 = K := cutL_all (.inl (Int.le_refl _))
        have hcl : (cutL K most).length ≤ K.length := by unfold cutL; split; simp; omega; exact Nat.le_refl _
        have HHD := Lib.hid (fun W (h : Below w4.heap.size w4 W) => (head_any pa pcap K (max most 0) w4.heap.size W (HV4.out.below h) hpc (by omega) (by omega)).mono (R' := fun e w' => e = .returned (.slice pa (cutL K most).length pcap) ∧ w' = W) (by
          rintro e w' ⟨h1, h2⟩
          rw [cutL_max] at h1
          exact ⟨h1, h2⟩))
        have HCU := Lib.hid (fun W (h : Below w4.heap.size w4 W) => hcu.grow h h.size)
        have HC0 := Lib.hid hc0
        clear hcu hc0 own hown4 hTr hb4 hys hyr e0' e1' e2' e3' hpc
        generalize hcd : cutL K most = C at *
        go_cut [7] from 41 to 50 (fun r wx => r = .bool true ∧ Below w4.heap.size w4 wx)
        case first =>
          have HS0 := Lib.hid (show Below w4.heap.size w4 w4 ∧ w4.cell? ⟨w.heap.size, 3, none⟩ = some (.int .i64 most) from ⟨Below.refl _ _, f3⟩)
          have HS1 := Lib.hid (show Below w4.heap.size w4 w4.drew ∧ w4.drew.cell? ⟨w.heap.size, 3, none⟩ = some (.int .i64 most) from ⟨(Below.refl _ _).drew, f3⟩)
          have NX := Lib.hid (fun W W' (h : Below w4.heap.size w4 W ∧ W.cell? ⟨w.heap.size, 3, none⟩ = some (.int .i64 most)) (hb : Below W.heap.size W W') => show Below w4.heap.size w4 W' ∧ W'.cell? ⟨w.heap.size, 3, none⟩ = some (.int .i64 most) from
            have h7 : Below w4.heap.size w4 W' := h.1.trans (hb.mono h.1.size)
            ⟨h7, (h7.cell (p := ⟨w.heap.size, 3, none⟩) hl4).trans f3⟩)
          have HL1 := Lib.hid (fun W (h : Below w4.heap.size w4 W ∧ W.cell? ⟨w.heap.size, 3, none⟩ = some (.int .i64 most)) => HLI.out most W ⟨hm0, hm1⟩ h.1)
          rw [hcd] at HL1
          have HH1 := Lib.hid (fun W (h : Below w4.heap.size w4 W ∧ W.cell? ⟨w.heap.size, 3, none⟩ = some (.int .i64 most)) => HHD.out W h.1)
          have HC1 := Lib.hid (fun W (h : Below w4.heap.size w4 W ∧ W.cell? ⟨w.heap.size, 3, none⟩ = some (.int .i64 most)) => HCU.out W h.1)
          clear f2 f3
          go_region_held3 (fun W => Below w4.heap.size w4 W ∧ W.cell? ⟨w.heap.size, 3, none⟩ = some (.int .i64 most))
            (first | exact HS0.out | exact HS1.out | exact NX.out _ _ (by assumption) hb9 | assumption)
            (first
            | (go_at_call 10; (with_reducible refine (HL1.out _ (by assumption)).mono ?_); rintro e w9 ⟨u9, rfl, ho9, hb9⟩; have hv9 := Lib.hid (Vs.vers_of_own ho9); clear ho9)
            | (go_at_call 11; (with_reducible refine (HH1.out _ (by assumption)).mono ?_); rintro e w8 ⟨rfl, rfl⟩)
            | (go_at_call 9; (with_reducible refine (HSM.out _ _ C _ hv9.out (HC1.out _ (by assumption)) (by omega)).mono ?_); rintro e w9 ⟨rfl, hb9⟩))
          all_goals (first | go_meet | (go_wp2_with fail; go_meet))
          all_goals exact ⟨rfl, (show Below w4.heap.size w4 _ ∧ _ from by assumption).1⟩
        case rest =>
          obtain ⟨rfl, hbd⟩ := hcut
          have g2 := (hbd.cell (p := ⟨w.heap.size, 2, none⟩) hl4).trans f2
          have hB5 := hB4.trans (hbd.mono hB4.size)
          have hlc : w.heap.size < wc.heap.size := by have := hbd.size; omega
          have HK5 := Lib.hid (HV4.out.grow hbd hbd.size)
          have HL5 := Lib.hid (HLI.out 0 wc (by omega) hbd)
          have HU5 := Lib.hid (HU4.out.grow hbd hbd.size)
          rw [HC0.out] at HL5
          clear f2 f3 HLI HHD HCU
          go_wp2_with (first
            | (go_at_call 10; ((with_reducible refine (HL5.out).mono ?_); rintro e w5 ⟨u5, rfl, ho5, hb5⟩; have hv5 := Lib.hid (Vs.vers_of_own ho5); have hK5 := Lib.hid (HK5.out.grow hb5 hb5.size); have hU6 := Lib.hid (HU5.out.grow hb5 hb5.size); have i2 := (hb5.cell (p := ⟨w.heap.size, 2, none⟩) hlc).trans g2; have hl5 : w.heap.size < w5.heap.size := (by have := hb5.size; omega); have hB6 := hB5.trans (hb5.mono hB5.size); clear ho5))
            | (go_at_call 9; (with_reducible refine (HSM.out _ _ K _ hv5.out hK5.out (by omega)).mono ?_); rintro e w6 ⟨rfl, hb6⟩; have hU7 := Lib.hid (hU6.out.grow hb6 hb6.size); have j2 := (hb6.cell (p := ⟨w.heap.size, 2, none⟩) hl5).trans i2; have hB7 := hB6.trans (hb6.mono hB6.size))
            | (go_at_call 12; (with_reducible refine (HKN.out ys _ hU7.out HYR.out (by have := HYS.out; omega)).mono ?_); rintro e w7 ⟨u7, T7, rfl, ht7, hb7⟩; have hB8 := hB7.trans (hb7.mono hB7.size))
            | (go_at_call 10; (with_reducible refine (HLN.out _ _ _ ht7).mono ?_); rintro e w8 ⟨u8, rfl, ho8, hb8⟩; obtain ⟨na, ncap, rfl, hng⟩ := Sq.row_cases ho8; have hB9 := hB8.trans (hb8.mono hB8.size)))
          go_ret
          exact ⟨rfl, hB9⟩
end Mg
end Go.Proofs.Ythcllaombabpbaa

/-
  The program's merge: Keep, called: what its boxes hold.
-/
namespace Go.Proofs.Ythcllaombabpbaa
open Go.RowKit Go.Shelf Go.Sort
set_option linter.unusedSimpArgs false
set_option linter.unusedVariables false
namespace So6
open Mg
/-- what Keep's iterator has captured: the row, the floors that rise, whether it is the bottom -/
def KeepBox (w W : World) (sv : Value) (fl : List Int) (bt : Bool) (e : Ending) : Prop := ∃ (B3 : Nat) (u : Value), e = .returned (.func (.func 30) #[] #[.pointer (some ⟨w.heap.size, 0, none⟩), .pointer (some ⟨B3, 0, none⟩), .pointer (some ⟨w.heap.size + 1, 0, none⟩)]) ∧
  Boxed W w.heap.size 26 sv ∧ Boxed W B3 34 u ∧ Boxed W (w.heap.size + 1) 4 (.bool bt) ∧ SortedRow fl w.heap.size W u ∧ w.heap.size + 1 < B3 ∧ Below w.heap.size w W

theorem SortedRow.kept {l : List Int} {B : Nat} {W W' : World} {v : Value} (h : SortedRow l B W v) (hk : Below W.heap.size W W') : SortedRow l B W' v := by
  obtain ⟨a, cap, b, S, h1, h2, h3, h4, h5⟩ := h
  exact ⟨a, cap, b, S, h1, h2, h3, fun h => ⟨(h4 h).1, (h4 h).2.1, Nat.lt_of_lt_of_le (h4 h).2.2 hk.size⟩, fun j h => (hk.cell (p := ⟨b, j, none⟩) (h4 (by omega)).2.2).trans (h5 j h)⟩
theorem SortedRow.slice {l : List Int} {B : Nat} {W : World} {v : Value} (h : SortedRow l B W v) : ∃ a n cap, v = .slice a n cap := by
  obtain ⟨a, cap, b, S, h1, _⟩ := h
  exact ⟨a, _, cap, h1⟩
theorem SortedRow.lower {l : List Int} {B B' : Nat} {W : World} {v : Value} (h : SortedRow l B W v) (hB : B' ≤ B) : SortedRow l B' W v := by
  obtain ⟨a, cap, b, S, h1, h2, h3, h4, h5⟩ := h
  exact ⟨a, cap, b, S, h1, h2, h3, fun h => ⟨(h4 h).1, Nat.le_trans hB (h4 h).2.1, (h4 h).2.2⟩, h5⟩

set_option maxRecDepth 100000 in
set_option maxHeartbeats 4000000 in
theorem keep0_any (HL : LenOk) (sv fv : Value) (hsv : sv = .nilFunc ∨ ∃ gf lb, sv = .func (.func gf) #[] lb) (fl : List Int) (bt : Bool) (w : World) (hF : Us w.heap.size w fv fl) (hfl : fl.length ≤ 1048576) :
    Calls Try.prog 12 #[sv, fv, .bool bt] w fun e w' => KeepBox w w' sv fl bt e := by
  have hF0 := hF
  obtain ⟨a, cap, fb, off, rfl, ha, hc⟩ := hF
  have hmf : ∀ (fn : Fn) (first cap : Array Value) (w : World), (Instr.makeFunc fn first cap).run Try.prog w = .ok (.func fn first cap) w := fun _ _ _ _ => rfl
  obtain ⟨wA, hwA⟩ : ∃ wA, (w.alloc (.cells #[sv] 26)).alloc (.cells #[.bool bt] 4) = wA := ⟨_, rfl⟩
  have hbA : Below w.heap.size w wA := by rw [← hwA]; exact ((Below.refl _ _).alloc (Nat.le_refl _) _).alloc (by simp) _
  have hsA : wA.heap.size = w.heap.size + 2 := by rw [← hwA]; simp
  have b0 : Boxed wA w.heap.size 26 sv := by rw [← hwA]; exact (Boxed.new w _ _).alloc _
  have b1 : Boxed wA (w.heap.size + 1) 4 (.bool bt) := by
    rw [← hwA]
    have := Boxed.new (w.alloc (.cells #[sv] 26)) 4 (.bool bt)
    rwa [World.size_alloc] at this
  obtain ⟨wB, hwB⟩ : ∃ wB, wA.alloc (.cells #[.slice a fl.length cap] 34) = wB := ⟨_, rfl⟩
  have hbB : Below wA.heap.size wA wB := by rw [← hwB]; exact (Below.refl _ _).alloc (Nat.le_refl _) _
  have hsB : wB.heap.size = wA.heap.size + 1 := by rw [← hwB]; simp
  have cB : wB.cell? ⟨wA.heap.size, 0, none⟩ = some (.slice a fl.length cap) := by rw [← hwB]; exact (Boxed.new wA _ _).cell
  have hUB : Us wA.heap.size wB (.slice a fl.length cap) fl := by
    obtain ⟨a', cap', fb', off', h1, h2, h3⟩ := hF0
    refine ⟨a', cap', fb', off', h1, fun h => ⟨(h2 h).1, by have := (h2 h).2; omega⟩, fun j h => ?_⟩
    have hlt := (h2 (by omega)).2
    exact (hbB.cell (p := ⟨fb', off' + j, none⟩) (by show fb' < _; omega)).trans ((hbA.cell (p := ⟨fb', off' + j, none⟩) hlt).trans (h3 j h))
  have HS := Lib.hid (sorted_any HL (.slice a fl.length cap) fl wA.heap.size wB (by omega) hUB cB (by omega))
  have HV := Lib.hid (show Calls Try.prog 29 #[.slice a fl.length cap] wA fun e w' => e = .returned (.func (.func 48) #[] #[.pointer (some ⟨wA.heap.size, 0, none⟩)]) ∧ w' = wB from by rw [← hwB]; exact vals_any a fl.length cap wA)
  have HF : Hid (∀ w2 u, SortedRow fl wB.heap.size w2 u → Below wB.heap.size wB w2 → Below w.heap.size w w2 ∧ Boxed w2 w.heap.size 26 sv ∧ Boxed w2 (w.heap.size + 1) 4 (.bool bt) ∧ SortedRow fl w.heap.size w2 u ∧ w.heap.size + 1 < w2.heap.size) := Lib.hid fun w2 u hS hb => by
    have hb2 : Below wA.heap.size wA w2 := hbB.trans (hb.mono (by omega))
    have := hb2.size
    exact ⟨hbA.trans (hb2.mono (by omega)), Ob.Obj.below (W := wA) b0 hb2, Ob.Obj.below (W := wA) b1 hb2, hS.lower (by omega), by omega⟩
  have HWA := Lib.hid hwA
  clear hwA hwB hbA hsA b0 b1 hbB hsB cB hUB hF0 ha hc
  rcases hsv with rfl | ⟨gf, lb, rfl⟩
  all_goals go_enter Try.func12, Try.ntmps12
  all_goals go_upto_region 1 with fail
  all_goals rw [HWA.out]
  all_goals go_upto_region 2 with (first
    | (go_at_call 29; (with_reducible refine (HV.out).mono ?_); rintro e w1 ⟨rfl, rfl⟩)
    | (go_at_call 28; (with_reducible refine (HS.out).mono ?_); rintro e w2 ⟨u, rfl, hS, hb2⟩; obtain ⟨ua, un, ucap, rfl⟩ := hS.slice; have HS2 := Lib.hid hS; have HB2 := Lib.hid hb2; clear hS hb2))
  all_goals go_wp2_with fail
  all_goals go_ret
  all_goals obtain ⟨f1, f2, f3, f4, f5⟩ := HF.out _ _ HS2.out HB2.out
  all_goals exact ⟨_, _, rfl, f2.alloc _, Boxed.new _ _ _, f3.alloc _, f4.kept ((Below.refl _ _).alloc (Nat.le_refl _) _), f5, f1.alloc f1.size _⟩
end So6
end Go.Proofs.Ythcllaombabpbaa

/-
  The program's merge: own (a version in memory of its own).
-/
namespace Go.Proofs.Ythcllaombabpbaa
open Go.RowKit Go.Shelf
set_option linter.unusedSimpArgs false
set_option linter.unusedVariables false
namespace Mg
open Mt (Ver mayB lessB placeB VerIn verV)
open Vs (Vers At vcs)

/-- while a version is cloned its box holds the same -/
def OwnS (w : World) (k s d v : Value) (W : World) : Prop := Below w.heap.size w W ∧ Ob.Obj W w.heap.size 44 [k, s, d, v] ∧ Ob.Obj W (w.heap.size + 1) 44 [.string ⟨#[]⟩, .int .u64 0, .bool false, .string ⟨#[]⟩]

theorem OwnS.cells {w W : World} {k s d v : Value} (h : OwnS w k s d v W) : OwnS w k s d v W ∧ W.cell? ⟨w.heap.size, 0, none⟩ = some k ∧ W.cell? ⟨w.heap.size, 3, none⟩ = some v ∧ W.frozen? ⟨w.heap.size, 0, none⟩ = false ∧ W.frozen? ⟨w.heap.size, 3, none⟩ = false :=
  ⟨h, by rw [h.2.1.cell 0]; rfl, by rw [h.2.1.cell 3]; rfl, h.2.1.frozen 0, h.2.1.frozen 3⟩
theorem OwnS.drew {w W : World} {k s d v : Value} (h : OwnS w k s d v W) : OwnS w k s d v W.drew := ⟨h.1.drew, h.2.1.drew, h.2.2.drew⟩
theorem OwnS.next {w W W' : World} {k s d v : Value} (h : OwnS w k s d v W) (hb : Below W.heap.size W W') : OwnS w k s d v W' :=
  ⟨h.1.trans (hb.mono h.1.size), h.2.1.below hb, h.2.2.below hb⟩
theorem OwnS.set0 {w W : World} {k s d v : Value} (h : OwnS w k s d v W) : OwnS w k s d v (W.setCell ⟨w.heap.size, 0, none⟩ k) :=
  ⟨h.1.setCell (Nat.le_refl _) _, by have := h.2.1.set 0 k; simpa using this, h.2.2.other (by simp) _⟩
theorem OwnS.set3 {w W : World} {k s d v : Value} (h : OwnS w k s d v W) : OwnS w k s d v (W.setCell ⟨w.heap.size, 3, none⟩ v) :=
  ⟨h.1.setCell (Nat.le_refl _) _, by have := h.2.1.set 3 v; simpa using this, h.2.2.other (by simp) _⟩

set_option maxRecDepth 100000 in
set_option maxHeartbeats 4000000 in
theorem own_any (k v : List UInt8) (s : Int) (d : Bool) (w : World) (hk : k.length ≤ 1048576) (hv : v.length ≤ 1048576) :
    Calls Try.prog 58 #[.agg #[.string (Cd.bs k), .int .u64 s, .bool d, .string (Cd.bs v)]] w fun e w' => e = .returned (.agg #[.string (Cd.bs k), .int .u64 s, .bool d, .string (Cd.bs v)]) ∧ Below w.heap.size w w' := by
  have HK := Lib.hid (fun W => clone_any (Cd.bs k) W (by show k.length ≤ _; omega))
  have HV := Lib.hid (fun W => clone_any (Cd.bs v) W (by show v.length ≤ _; omega))
  obtain ⟨K, hK⟩ : ∃ K : Value, K = .string (Cd.bs k) := ⟨_, rfl⟩
  obtain ⟨wA, hwA⟩ : ∃ wA, (w.alloc (.cells #[.string (Cd.bs k), .int .u64 s, .bool d, .string (Cd.bs v)] 44)).alloc (.cells #[.string ⟨#[]⟩, .int .u64 0, .bool false, .string ⟨#[]⟩] 44) = wA := ⟨_, rfl⟩
  have hS : OwnS w (.string (Cd.bs k)) (.int .u64 s) (.bool d) (.string (Cd.bs v)) wA := by
    rw [← hwA]
    refine ⟨((Below.refl _ _).alloc (Nat.le_refl _) _).alloc (by simp) _, (Ob.Obj.new w _ _).alloc _, ?_⟩
    have := Ob.Obj.new (w.alloc (.cells #[.string (Cd.bs k), .int .u64 s, .bool d, .string (Cd.bs v)] 44)) 44 [.string ⟨#[]⟩, .int .u64 0, .bool false, .string ⟨#[]⟩]
    rwa [World.size_alloc] at this
  have HWA := Lib.hid hwA
  clear hwA hK K
  have HS0 := Lib.hid hS.cells
  have HS1 := Lib.hid hS.drew.cells
  go_enter Try.func58, Try.ntmps58
  go_upto_region 1 with fail
  rw [HWA.out]
  go_cut [] from 3 to 10 (fun wx => OwnS w (.string (Cd.bs k)) (.int .u64 s) (.bool d) (.string (Cd.bs v)) wx)
  case first =>
    go_region_held3 (fun W => OwnS w (.string (Cd.bs k)) (.int .u64 s) (.bool d) (.string (Cd.bs v)) W ∧ W.cell? ⟨w.heap.size, 0, none⟩ = some (.string (Cd.bs k)) ∧ W.cell? ⟨w.heap.size, 3, none⟩ = some (.string (Cd.bs v)) ∧ W.frozen? ⟨w.heap.size, 0, none⟩ = false ∧ W.frozen? ⟨w.heap.size, 3, none⟩ = false)
      (first | exact HS0.out | exact HS1.out | exact ((show OwnS w (.string (Cd.bs k)) (.int .u64 s) (.bool d) (.string (Cd.bs v)) _ from (by assumption : _ ∧ _).1).next hb9).cells | exact ((show OwnS w (.string (Cd.bs k)) (.int .u64 s) (.bool d) (.string (Cd.bs v)) _ from (by assumption : _ ∧ _).1).set0).cells | exact ((show OwnS w (.string (Cd.bs k)) (.int .u64 s) (.bool d) (.string (Cd.bs v)) _ from (by assumption : _ ∧ _).1).set3).cells)
      (first
      | (go_at_call 35; (with_reducible refine (HK.out _).mono ?_); rintro e w9 ⟨rfl, hb9⟩)
      | (go_at_call 35; (with_reducible refine (HV.out _).mono ?_); rintro e w9 ⟨rfl, hb9⟩))
    all_goals (try go_wp2_with fail)
    all_goals go_meet
    all_goals exact (show OwnS w (.string (Cd.bs k)) (.int .u64 s) (.bool d) (.string (Cd.bs v)) _ ∧ _ from by assumption).1
  case rest =>
    have c0 := hcut.2.1.cell 0
    have c1 := hcut.2.1.cell 1
    have c2 := hcut.2.1.cell 2
    have c3 := hcut.2.1.cell 3
    have d0 := hcut.2.2.cell 0
    have d1 := hcut.2.2.cell 1
    have d2 := hcut.2.2.cell 2
    have d3 := hcut.2.2.cell 3
    have f0 := hcut.2.2.frozen 0
    have f1 := hcut.2.2.frozen 1
    have f2 := hcut.2.2.frozen 2
    have f3 := hcut.2.2.frozen 3
    simp at c0 c1 c2 c3 d0 d1 d2 d3
    have HB := Lib.hid hcut.1
    go_wp2_with fail
    exact bodyPost_ret (v := .agg #[.string (Cd.bs k), .int .u64 s, .bool d, .string (Cd.bs v)]) (by simp [results, Try.results58, go_sem, d0, d1, d2, d3]) rfl ⟨rfl, (((HB.out.setCell (by simp) _).setCell (by simp) _).setCell (by simp) _).setCell (by simp) _⟩
end Mg
end Go.Proofs.Ythcllaombabpbaa

/-
  A region that draws its order and only reads, walked once in the text's order, where the fence lets all in: also within a round of a range over a function.
-/
namespace Go.Proofs.Ythcllaombabpbaa
namespace Qr
variable {F : Fence} {n : Nat} {P : Program} {ops : Array Oper} {md : Region.Mode} {C : World → Prop}

/-- the fence lets all in -/
structure Open (F : Fence) : Prop where
  fn : ∀ f, F.fn f
  depth : F.depth = none
  calls : ∀ {P : Program} {n : Nat} {f : FuncId} {args : Array Value} {w : World} {R : Ending → World → Prop}, Calls P f args w R → CallsIn F n P f args w R
theorem open_wide : Open Fence.wide := ⟨fun _ => trivial, rfl, fun h => callsIn_wide.2 h⟩
theorem open_round (l : Nat) : Open (Fence.wide.inRound l) := ⟨fun _ => trivial, rfl, fun h => CallsIn.inRound l (callsIn_wide.2 h)⟩

def notDefer (o : Oper) : Bool := match o.op with | .defer _ => false | _ => true
theorem notDefer_ne {o : Oper} (h : notDefer o = true) : ∀ c, o.op ≠ .defer c := fun c e => by unfold notDefer at h; rw [e] at h; cases h

theorem oper_of_quiet (hO : Open F) {o : Oper} {a : Act} {K : Act → Prop} {K' : Act → World → Prop} {Q' : Exit → Act → World → Prop} {w : World} (hnd : notDefer o = true) (hw : C w) (h : ∀ a w', C w' → K a → K' a w')
    (hh : o.quiet P a C K) : o.wpIn F n P a w K' Q' := by
  obtain ⟨v, h1, h2⟩ := hh
  have h3 := h1 w hw
  unfold Oper.quietAt at h3
  unfold Oper.wpIn
  refine ⟨fun f _ => hO.fn f, ?_⟩
  rw [Oper.semAt_eq _ _ _ (notDefer_ne hnd)]
  generalize (execOp a.eval o).run P w = r at *
  cases r with
  | ok x w' =>
    cases x <;> simp only [Oper.quietUpon] at h3 <;> simp only [Oper.uponIn]
    case value u => obtain ⟨e1, e2⟩ := h3; rw [e1, e2]; exact h _ _ hw h2
    case skip => obtain ⟨e1, e2⟩ := h3; rw [e1, ← e2]; exact h _ _ hw h2
    case enter f args =>
      obtain ⟨e1, hc⟩ := h3
      rw [e1]
      exact ⟨fun hd => (by rw [hO.depth] at hd; cases hd), (hO.calls hc).mono fun e w'' ⟨he, hw''⟩ => by subst he; exact h _ _ hw'' h2⟩
  | halt x w' => simp only [Oper.quietUpon] at h3

theorem op_of_quiet (hO : Open F) (hnd : ops.all notDefer = true) {i : Nat} {a : Act} {K : Act → Prop} {K' : Act → World → Prop} {Q' : Exit → Act → World → Prop} {w : World} (hC : C w) (h : ∀ a w', C w' → K a → K' a w')
    (hh : qOp P ops C i K a) : wpOpIn F n P ops Q' i K' a w := by
  unfold qOp at hh
  unfold wpOpIn
  cases ho : ops[i]? with
  | none => simp only [ho] at hh; exact h _ _ hC hh
  | some o =>
    simp only [ho] at hh
    have hno : notDefer o = true := Array.all_eq_true_iff_forall_mem.1 hnd o (Array.mem_of_getElem? ho)
    by_cases hw : Region.wanted o (yielded ops a.tmps) = true
    · simp only [hw, if_true] at hh ⊢; exact oper_of_quiet hO hno hC h hh
    · simp only [hw] at hh ⊢; exact ⟨fun f _ => hO.fn f, h _ _ hC hh⟩

theorem any_of_quiet (hO : Open F) (hnd : ops.all notDefer = true) {Q : Act → Prop} {Q' : Exit → Act → World → Prop} (hQ : ∀ a w, C w → Q a → Q' .normal a w) : ∀ (fuel : Nat) (listed : Array Bool) (a : Act) (w : World), C w →
    wpAnyQ P md ops C Q fuel listed a → wpAnyIn F n P md ops Q' fuel listed a w
  | 0, _, _, _, hw, h => ⟨h.1, hQ _ _ hw h.2⟩
  | fuel + 1, _, _, _, hw, h => ⟨fun h0 => hQ _ _ hw (h.1 h0), fun i hi => op_of_quiet hO hnd hw (fun a' w' hw' => any_of_quiet hO hnd hQ fuel _ a' w' hw') (h.2 i hi)⟩

/-- one walk of the text's order serves every order, also within a round -/
theorem region_quiet {id : Nat} {Q : Exit → Act → World → Prop} {a : Act} {w : World} {l : List Oper} (hO : Open F) (hm : P.follows .mixedOrders = true) (hB : Region.lexB .any l.toArray = true) (hnd : l.toArray.all notDefer = true)
    (h : wpQuiet P l.toArray (fun w' => ∃ n, w' = w.drewN n) (fun a' => ∀ w', (∃ n, w' = w.drewN n) → Q .normal a' w') l a) : (Code.region id l.toArray true).wpIn F n P Q a w := by
  simp only [Region.lexB, Bool.and_eq_true] at hB
  refine wpIn_region_any hm (any_of_quiet (C := fun w' => ∃ n, w' = w.drewN n) hO hnd (Q := fun a' => ∀ w', (∃ n, w' = w.drewN n) → Q .normal a' w') (fun _ w' hw' h => h w' hw') _ _ _ _ ⟨1, rfl⟩ ?_)
  have := wpAnyQ_lex (P := P) (C := fun w' => ∃ n, w' = w.drewN n) (md := .any) (ops := l.toArray) hB.1 l 0 (Array.replicate l.toArray.size false) a (by simp) (by simpa using hB.2) h
  simpa using this
end Qr
end Go.Proofs.Ythcllaombabpbaa

/-
  A region that draws its order, within a round of a range over a function, walked as a plain one.
-/
namespace Go.Proofs.Ythcllaombabpbaa
namespace Qr
variable {n : Nat} {P : Program} {ops : Array Oper} {md : Region.Mode}

theorem rows_of_plain {row : String} {args : Array Value} {w : World} {R : Value → World → Prop} (lr : Nat) (h : Rows P row args w R) : RowsIn (Fence.wide.inRound lr) n P row args w R :=
  fun c cs _ => let ⟨v, w', r, s⟩ := h c cs; ⟨v, w', r, stepsIn_wide.2 s⟩

theorem oper_of_plain (lr : Nat) {o : Oper} {a : Act} {K : Act → World → Prop} {Q : Exit → Act → World → Prop} {w : World} (hnd : notDefer o = true) (h : o.wp P a w K Q) : o.wpIn (Fence.wide.inRound lr) n P a w K Q := by
  unfold Oper.wp at h
  unfold Oper.wpIn
  refine ⟨fun f _ => trivial, ?_⟩
  rw [Oper.semAt_eq _ _ _ (notDefer_ne hnd)]
  generalize (execOp a.eval o).run P w = r at *
  cases r with
  | ok x w' =>
    cases x <;> simp only [Oper.upon] at h <;> simp only [Oper.uponIn]
    case value u => exact h
    case skip => exact h
    case defer d => exact h
    case enter f args => exact ⟨fun hd => (by cases hd), CallsIn.inRound lr (callsIn_wide.2 h)⟩
    case row row args => exact ⟨fun hd => (by cases hd), rows_of_plain lr h⟩
  | halt x w' =>
    cases x <;> simp only [Oper.upon] at h <;> simp only [Oper.uponIn]
    exact h

theorem op_of_plain (lr : Nat) (hnd : ops.all notDefer = true) {i : Nat} {a : Act} {K K' : Act → World → Prop} {Q : Exit → Act → World → Prop} {w : World} (hl : ¬ LetsOut Q) (hK : ∀ a w, K a w → K' a w)
    (h : wpOp P ops Q i K a w) : wpOpIn (Fence.wide.inRound lr) n P ops Q i K' a w := by
  unfold wpOp at h
  unfold wpOpIn
  cases ho : ops[i]? with
  | none => simp only [ho] at h; exact hK _ _ h
  | some o =>
    simp only [ho] at h
    have hno : notDefer o = true := Array.all_eq_true_iff_forall_mem.1 hnd o (Array.mem_of_getElem? ho)
    by_cases hw : Region.wanted o (yielded ops a.tmps) = true
    · simp only [hw, if_true] at h ⊢
      rcases h with h | h
      · exact Oper.wpIn_mono hK (oper_of_plain lr hno h)
      · exact absurd h.2 hl
    · simp only [hw] at h ⊢; exact ⟨fun f _ => trivial, hK _ _ h⟩

theorem any_of_plain (lr : Nat) (hnd : ops.all notDefer = true) {Q : Exit → Act → World → Prop} (hl : ¬ LetsOut Q) : ∀ (fuel : Nat) (listed : Array Bool) (a : Act) (w : World),
    wpAny P md ops Q fuel listed a w → wpAnyIn (Fence.wide.inRound lr) n P md ops Q fuel listed a w
  | 0, _, _, _, h => h
  | fuel + 1, _, _, _, h => ⟨h.1, fun i hi => op_of_plain lr hnd hl (fun a' w' => any_of_plain lr hnd hl fuel _ a' w') (h.2 i hi)⟩

/-- the region in a round, from its plain walk -/
theorem region_plain (lr : Nat) {id : Nat} {Q : Exit → Act → World → Prop} {a : Act} {w : World} (hm : P.follows .mixedOrders = true) (hnd : ops.all notDefer = true) (hl : ¬ LetsOut Q)
    (h : wpAny P .any ops Q ops.size (Array.replicate ops.size false) a w.drew) : (Code.region id ops true).wpIn (Fence.wide.inRound lr) n P Q a w :=
  wpIn_region_any hm (any_of_plain lr hnd hl _ _ _ _ h)
end Qr
end Go.Proofs.Ythcllaombabpbaa

/-
  The program's merge: through (a sequence that was handed in, nil or not, each version in memory of its own; a panic of the sequence's own would end it: none comes).
-/
namespace Go.Proofs.Ythcllaombabpbaa
open Go.RowKit Go.Shelf
set_option linter.unusedSimpArgs false
set_option linter.unusedVariables false
namespace Mg
open Mt (Ver mayB lessB placeB VerIn verV)
open Vs (Vers At vcs)
open Tb (ver0 getD_at own_after lower_row)
attribute [local go_sem] Oper.semAt_some

set_option maxRecDepth 100000 in
set_option maxHeartbeats 4000000 in
/-- the deferred literal where nothing panics -/
theorem rec_any (n : Nat) (B : Nat) (w : World) (hB : Boxed w B 4 (.bool false)) :
    CallsDIn Fence.wide n Try.prog 57 #[.pointer (some ⟨B, 0, none⟩)] .returning w fun e u w' => (∃ v, e = .returned v) ∧ u = .returning ∧ w' = w := by
  have hc := hB.cell
  have hf := hB.frozen
  refine callsDIn_of_wpSIn Try.func57 rfl trivial fun c₀ cs hu => ?_
  have hrec : recoverD (c₀ :: cs) = none := by simp [recoverD, hu]
  simp only [Try.ntmps57, List.size_toArray, List.length_cons, List.length_nil, Nat.reduceAdd, Nat.reduceSub, Array.replicate_succ, Array.replicate_zero, List.push_toArray, List.append_toArray, List.nil_append, List.cons_append]
  refine wpSIn_seq ?_
  refine wpSIn_region ?_
  simp [wpOpsSIn, go_sem, Exit.thenS, hc, Oper.about, resolve, Target.leads]
  refine wpSIn_cond (t := true) (by simp [Act.eval]) ?_
  simp only [if_true]
  refine wpSIn_region ?_
  simp [wpOpsSIn, go_sem, hrec, Oper.about, resolve, Target.leads]
  exact ⟨rfl, .returning, by rw [← hu], .tuple #[], results_none rfl _ _ _, ⟨_, rfl⟩, rfl, rfl⟩

/-- what a yield answers, the two ways as one -/
structure YR {α : Type} (J Jx : Sq.Blocks → List α → World → Prop) (R T : Sq.Blocks) (p : List α) (W1 : World) (b : Bool) (W' : World) : Prop where
  on : b = true → J R p W'
  off : b = false → Jx R p W'
  kept : Sq.Kept (fun k => R k ∨ T k) W1 W'
theorem yr_of {α : Type} {J Jx : Sq.Blocks → List α → World → Prop} {R T : Sq.Blocks} {p : List α} {W1 W' : World} {e : Ending}
    (h : (e = .returned (.bool true) ∧ J R p W' ∧ Sq.Kept (fun k => R k ∨ T k) W1 W') ∨ (e = .returned (.bool false) ∧ Jx R p W' ∧ Sq.Kept (fun k => R k ∨ T k) W1 W')) : ∃ b : Bool, e = .returned (.bool b) ∧ YR J Jx R T p W1 b W' := by
  rcases h with ⟨rfl, h1, h2⟩ | ⟨rfl, h1, h2⟩
  · exact ⟨true, rfl, fun _ => h1, fun h => (by cases h), h2⟩
  · exact ⟨false, rfl, fun h => (by cases h), fun _ => h1, h2⟩

set_option maxRecDepth 100000 in
set_option maxHeartbeats 4000000 in
/-- THROUGH TELLS WHAT IS TOLD. -/
theorem through1_seq (n : Nat) (hn : 5 ≤ n) (sv : Value) (L : List Ver) (T : Sq.Blocks) (hL : ∀ x ∈ L, VerIn x) (B : Nat) (w : World) (hB : Boxed w B 26 sv) (hT : Tells w sv L T) :
    Sq.SeqC Fence.wide n Try.prog 56 #[.pointer (some ⟨B, 0, none⟩)] vEnc9 (fun k => k = B ∨ T k) (fun ys => ys = L) (fun pre => pre <+: L) w := by
  intro lp J Jx W hW hJ hJx hY h0
  have hBW := hW.boxed (.inl rfl) hB
  have hcB := hBW.cell
  have hlB := hBW.lt
  have hTW := hT.kept (hW.less fun k h _ => .inr h)
  obtain ⟨gf, lb, hsv, eg, hTl, hseq⟩ := hTW
  subst hsv
  have HSEQ := Lib.hid hseq
  have HTL := Lib.hid hTl
  have HY := Lib.hid (fun R pre x W1 h1 h2 h3 => (hY R pre x W1 h1 h2 h3))
  clear hseq hTl hY
  have hn1 : 1 ≤ n := by omega
  refine callsIn_of_wp_marks Try.func56 rfl trivial ?_ rfl
  simp only [Try.ntmps56, List.size_toArray, List.length_cons, List.length_nil, Nat.reduceAdd, Nat.reduceSub, Array.replicate_succ, Array.replicate_zero, List.push_toArray, List.append_toArray, List.nil_append, List.cons_append]
  have hmf : ∀ (fn : Fn) (first cap : Array Value) (w : World), (Instr.makeFunc fn first cap).run Try.prog w = .ok (.func fn first cap) w := fun _ _ _ _ => rfl
  have hne : ∀ (w : World), (binOp BinOp.eql 26 (.func (.func gf) #[] lb) .nilFunc).run Try.prog w = .ok (.bool false) w := fun w => by
    simp [binOp, go_sem]
    rfl
  gi_wp2_with fail
  clear hne hmf
  obtain ⟨W0, hW0⟩ : ∃ W0, (W.alloc (.cells #[.func (.yield lp) #[] #[]] 54)).alloc (.cells #[.bool false] 4) = W0 := ⟨_, rfl⟩
  have hsz : W0.heap.size = W.heap.size + 2 := by rw [← hW0]; simp
  have bY : Boxed W0 W.heap.size 54 (.func (.yield lp) #[] #[]) := by rw [← hW0]; exact (Boxed.new W _ _).alloc _
  have bA : Boxed W0 (W.heap.size + 1) 4 (.bool false) := by
    rw [← hW0]; have := Boxed.new (W.alloc (.cells #[.func (.yield lp) #[] #[]] 54)) 4 (.bool false)
    rw [World.size_alloc] at this; exact this
  obtain ⟨M, hM⟩ : ∃ M : Sq.Blocks, M = fun k => W.heap.size ≤ k ∧ k < W.heap.size + 2 := ⟨_, rfl⟩
  have hMm : ∀ k, M k ↔ W.heap.size ≤ k ∧ k < W.heap.size + 2 := fun k => by rw [hM]
  have hJ0 : J (fun k => False ∨ M k) [] W0 := hJ _ _ _ _ _ h0 ⟨by rw [← hW0]; exact (Sq.Kept.alloc _ _ _).trans (Sq.Kept.alloc _ _ _), fun _ h => h.elim, fun k h => h.elim (fun h => h.elim) (fun h => .inr ((hMm k).1 h).1)⟩
  have hkT : Sq.Kept T W W0 := by rw [← hW0]; exact (Sq.Kept.alloc _ _ _).trans (Sq.Kept.alloc _ _ _)
  rw [hW0]
  clear hW0 hM
  have hleave : ∀ (tmps : Array Value) (D : Nat) (X : World) (Rf : Ending → World → Prop), D ≠ W.heap.size + 1 → Boxed X (W.heap.size + 1) 4 (.bool false) → X.heap[D]? = some (.deferred (some [])) →
      (∀ X', Sq.Kept (fun k => k ≠ D) X X' → LeavesIn Fence.wide n Try.prog Try.f56 tmps Rf [] .returning X') →
      LeavesInM Fence.wide n Try.prog Try.f56 tmps Rf [{ target := .collected D, args := #[] }, { target := .fn (.func 57) #[.pointer (some ⟨W.heap.size + 1, 0, none⟩)], args := #[] }] .returning X := by
    intro tmps D X Rf hD hb hdf h
    refine ⟨by simp, .inl ⟨_, _, rfl, run_takeDeferred hdf, ?_⟩⟩
    refine ⟨by simp, .inr ⟨fun h => (by cases h), _, _, 57, #[.pointer (some ⟨W.heap.size + 1, 0, none⟩)], rfl, ?_, fun _ _ => trivial, ?_⟩⟩
    · simp [invoke, go_sem, enters_of Try.func57 (by kernel_rfl) rfl]
    · refine (rec_any (n - 1) (W.heap.size + 1) _ (show Boxed (X.putObj D (.deferred none)) _ _ _ from (World.putObj_heap_other (fun e => hD e.symm)).trans hb)).mono ?_
      rintro e u' w' ⟨⟨v, rfl⟩, rfl, rfl⟩
      exact h _ (Sq.Kept.putObj _ _ (fun h => h rfl))
  refine Sq.wp_range rfl (by omega) (gf := gf) (lb := lb) rfl trivial eg (Sq.seqC_any (n - 1) (HSEQ.out W0 hkT)) (fun k hk => by have := HTL.out k hk; omega) (fun _ => rfl)
    (fun R pre X => J (fun k => R k ∨ M k) pre X ∧ (Boxed X (W.heap.size + 1) 4 (.bool false) ∧ ¬ R (W.heap.size + 1)) ∧ (Boxed X W.heap.size 54 (.func (.yield lp) #[] #[]) ∧ ¬ R W.heap.size))
    (fun c R pre X => c = .ret ∧ Jx (fun k => R k ∨ M k) pre X ∧ (Boxed X (W.heap.size + 1) 4 (.bool false) ∧ ¬ R (W.heap.size + 1)))
    (fun a' x R pre X => (J (fun k => R k ∨ M k) pre X ∧ (Boxed X (W.heap.size + 1) 4 (.bool false) ∧ ¬ R (W.heap.size + 1)) ∧ (Boxed X W.heap.size 54 (.func (.yield lp) #[] #[]) ∧ ¬ R W.heap.size)) ∧
      ∃ Bf, (Ob.Obj X Bf 44 [.string (Cd.bs x.key), .int .u64 x.seq, .bool x.del, .string (Cd.bs x.val)] ∧ ¬ R Bf ∧ ¬ M Bf) ∧
      a' = { tmps := #[.func (.yield lp) #[] #[], .pointer (some ⟨B, 0, none⟩), .pointer (some ⟨W.heap.size, 0, none⟩), .pointer (some ⟨W.heap.size + 1, 0, none⟩), .pointer (some ⟨Bf, 0, none⟩), undef, .func (.func gf) #[] lb, .bool false, .func (.func 57) #[] #[.pointer (some ⟨W.heap.size + 1, 0, none⟩)], .func (.func gf) #[] lb, .agg #[.string (Cd.bs x.key), .int .u64 x.seq, .bool x.del, .string (Cd.bs x.val)], undef, undef, undef, undef, undef, undef], defers := [] })
    ((hJ.or M (fun l => l)).and ((Sq.Steady.box _ _ _).and (Sq.Steady.box _ _ _)))
    (fun c => (Sq.Steady.pure _).and ((hJx.or M (fun l => l)).and (Sq.Steady.box _ _ _)))
    (fun a' x => ((hJ.or M (fun l => l)).and ((Sq.Steady.box _ _ _).and (Sq.Steady.box _ _ _))).and (Sq.Steady.ex fun Bf => (show Sq.Steady (fun R (_ : List Ver) X => Ob.Obj X Bf 44 [.string (Cd.bs x.key), .int .u64 x.seq, .bool x.del, .string (Cd.bs x.val)] ∧ ¬ R Bf ∧ ¬ M Bf) from fun R R' s X X' h st => by
      obtain ⟨h1, h2⟩ := Sq.step_obj st h.1 h.2.1
      exact ⟨h1, h2, h.2.2⟩).and (fun _ _ _ _ _ hs _ => hs)))
    ⟨hJ0, ⟨bA, fun h => h⟩, bY, fun h => h⟩ ?assign ?body ?done ?stop
  case assign =>
    rintro lr R pre x X hbd hsp ⟨hj, ⟨hb, hnb⟩, hy, hny⟩
    have hszX := hb.lt
    gi_wp2
    refine ⟨Sq.Kept.alloc _ _ _, ⟨hJ _ _ _ _ _ hj (Sq.Step.alloc0 _ _ _), ⟨hb.alloc _, hnb⟩, hy.alloc _, hny⟩, X.heap.size, ⟨Ob.Obj.new X _ _, fun h => by have := hbd _ h; omega, fun h => by have := (hMm _).1 h; omega⟩, ?_⟩
    first | rfl | trivial
  case body =>
    rintro lr R pre x a' X hRl hrec hbd hsp ⟨⟨hj, ⟨hb, hnb⟩, hy, hny⟩, Bf, ⟨hf, hnf, hmf⟩, rfl⟩
    have hxi := hL x (hsp.subset (by simp))
    have HOWN := Lib.hid (fun X => own_any x.key x.val x.seq x.del X (by have := hxi; unfold VerIn at this; omega) (by have := hxi; unfold VerIn at this; omega))
    have mixed : Try.prog.follows .mixedOrders = true := by kernel_rfl
    have hszX : W.heap.size + 2 ≤ X.heap.size := by have := hb.lt; omega
    have hcb := hb.cell
    have hfb := hb.frozen
    have hnl : ¬ M lr := fun h => by have := (hMm _).1 h; have := hbd lr hRl; omega
    have hMb : M (W.heap.size + 1) := (hMm _).2 (by omega)
    have hMy : M W.heap.size := (hMm _).2 (by omega)
    have hTb : ¬ T (W.heap.size + 1) := fun h => by have := HTL.out _ h; omega
    have hne1 : Bf ≠ W.heap.size + 1 := fun e => hmf (e ▸ hMb)
    obtain ⟨X1, hX1⟩ : ∃ X1, X.setCell ⟨W.heap.size + 1, 0, none⟩ (.bool true) = X1 := ⟨_, rfl⟩
    have st1 : Sq.Step (fun k => R k ∨ M k) (fun k => R k ∨ M k) X X1 := by rw [← hX1]; exact Sq.Step.setCell _ _ (.inr hMb)
    have hb1 : Boxed X1 (W.heap.size + 1) 4 (.bool true) := by rw [← hX1]; exact hb.set _
    have hy1 : Boxed X1 W.heap.size 54 (.func (.yield lp) #[] #[]) := by rw [← hX1]; exact hy.other (by simp) _
    have hf1 : Ob.Obj X1 Bf 44 [.string (Cd.bs x.key), .int .u64 x.seq, .bool x.del, .string (Cd.bs x.val)] := by rw [← hX1]; exact hf.other hne1 _
    have hk1 : Sq.Kept (fun k => R k ∨ T k) X X1 := by rw [← hX1]; exact Sq.Kept.setCell _ _ (fun h => h.elim hnb hTb)
    have HYY := Lib.hid (fun X9 (hst : Sq.Step (fun k => R k ∨ M k) (fun k => R k ∨ M k) X X9) => Sq.anyDepth rfl (n - 1 - 1 - 1) (HY.out (fun k => R k ∨ M k) pre x X9 (hJ _ _ _ _ _ hj hst) (fun k h => h.elim (fun h => by have := hbd k h; have := hst.kept.size; omega) (fun h => by have := (hMm k).1 h; have := hst.kept.size; omega)) hsp))
    have HST := Lib.hid st1
    have HK1 := Lib.hid hk1
    have HB1 := Lib.hid hb1
    have hc9 := fun X9 (h : Below X1.heap.size X1 X9) => ((show Boxed X9 W.heap.size 54 (.func (.yield lp) #[] #[]) from Ob.Obj.below (W := X1) hy1 h).cell)
    have HC9 := Lib.hid hc9
    have HY1 := Lib.hid (fun X9 (h : Below X1.heap.size X1 X9) => show Boxed X9 W.heap.size 54 (.func (.yield lp) #[] #[]) from Ob.Obj.below (W := X1) hy1 h)
    clear hc9
    have hcy := hy1.cell
    have g0 := hf1.cell 0
    have g1 := hf1.cell 1
    have g2 := hf1.cell 2
    have g3 := hf1.cell 3
    simp at g0 g1 g2 g3
    have hlt1 : W.heap.size < X1.heap.size := hy1.lt
    have hltB := hf1.lt
    clear hf hy hb st1 hk1 hb1 hf1 hy1
    gi_wp2_with fail
    clear hX1
    gi_cut [5] from 11 (fun u wx => ∃ b X9, u = .bool b ∧ Below X1.heap.size X1 X9 ∧ YR J Jx (fun k => R k ∨ M k) (fun k => k = B ∨ T k) (pre ++ [x]) X9 b wx)
    case first =>
      gi_region_with_o (first
        | (refine ⟨trivial, fun h => (by cases h), ?_⟩; gi_at_call 58; refine (CallsIn.inRound lr (callsIn_wide.2 (HOWN.out _))).mono ?_; rintro e w9 ⟨rfl, hb9⟩; have hX9 : Below X1.heap.size X1 w9 := (Below.refl _ _).drew.trans hb9; have hcy9 := HC9.out w9 hX9; obtain ⟨fn, tmps, assign, body, hyy, hR⟩ := HYY.out w9 (HST.out.trans (Sq.Step.below hX9)); have HR := Lib.hid hR; clear hR; simp only [vEnc9] at hyy)
        | (refine ⟨fun h => (by cases h), ?_⟩; refine (Sq.round_in lr HR.out).mono ?_; intro e X3 h3; obtain ⟨b, rfl, h4⟩ := yr_of h3; have H3 := Lib.hid h4; clear h3 h4))
      all_goals (try gi_wp2_with fail)
      all_goals gi_meet
      all_goals exact ⟨b, w9, rfl, hX9, H3.out⟩
    case rest =>
      obtain ⟨b, X9, rfl, hX9, hyr⟩ := hcut
      have hb3 : Boxed wc (W.heap.size + 1) 4 (.bool true) := hyr.kept.boxed (.inl (.inr hMb)) (Ob.Obj.below (W := X1) HB1.out hX9)
      have hc3 := hb3.cell
      have hf3 := hb3.frozen
      have hkk : Sq.Kept (fun k => R k ∨ T k) X (wc.setCell ⟨W.heap.size + 1, 0, none⟩ (.bool false)) := by
        refine (HK1.out.trans (Sq.Kept.of_below hX9)).trans ((hyr.kept.less ?_).trans (Sq.Kept.setCell _ _ (fun h => h.elim hnb hTb)))
        rintro k (h | h) _
        · exact .inl (.inl h)
        · exact .inr (.inr h)
      have hbx : Boxed (wc.setCell ⟨W.heap.size + 1, 0, none⟩ (.bool false)) (W.heap.size + 1) 4 (.bool false) := hb3.set _
      have hyx : Boxed (wc.setCell ⟨W.heap.size + 1, 0, none⟩ (.bool false)) W.heap.size 54 (.func (.yield lp) #[] #[]) := by
        refine Boxed.other (hyr.kept.boxed (.inl (.inr hMy)) ?_) (by simp) _
        exact HY1.out X9 hX9
      have HKK := Lib.hid hkk
      have HYR := Lib.hid hyr
      have HBX := Lib.hid hbx
      have HYX := Lib.hid hyx
      clear hkk hyr hbx hyx
      cases b with
      | true =>
        gi_wp2_with fail
        exact ⟨HKK.out, hJ _ _ _ _ _ (HYR.out.on rfl) (Sq.Step.setCell _ _ (.inr hMb)), ⟨HBX.out, hnb⟩, HYX.out, hny⟩
      | false =>
        gi_wp2_with fail
        exact ⟨HKK.out, rfl, hJx _ _ _ _ _ (HYR.out.off rfl) (Sq.Step.setCell _ _ (.inr hMb)), HBX.out, hnb⟩
  case done =>
    rintro D R ys X hD hRD rfl ⟨hj, ⟨hb, hnb⟩, _⟩ hdf
    gi_wp2
    refine hleave _ D X _ (by omega) hb hdf (fun X' hk => ?_)
    refine ⟨_, results_none rfl _ _ _, ⟨_, rfl⟩, .inl ⟨_, _, rfl, hJ _ _ _ _ _ hj ⟨hk.less (fun k hk' _ e => hk' (.inl (e ▸ hRD))), fun _ h => h, fun _ h => .inl h⟩⟩⟩
  case stop =>
    rintro D R c pre X hD hRD hsp ⟨rfl, hj, ⟨hb, hnb⟩⟩ hdf
    gi_wp2
    refine hleave _ D X _ (by omega) hb hdf (fun X' hk => ?_)
    refine ⟨_, results_none rfl _ _ _, ⟨_, rfl⟩, .inr ⟨_, _, hsp, hJx _ _ _ _ _ hj ⟨hk.less (fun k hk' _ e => hk' (.inl (e ▸ hRD))), fun _ h => h, fun _ h => .inl h⟩⟩⟩
end Mg
end Go.Proofs.Ythcllaombabpbaa
