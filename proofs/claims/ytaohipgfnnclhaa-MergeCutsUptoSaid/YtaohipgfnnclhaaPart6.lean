import Derived.Laws.CopyOwn
import Derived.Laws.EntriesVeiled
import Derived.Deep.RegionHeld3
import Derived.StillTailTactics
import Derived.Deep.CutBlock
import Derived.Below
import Derived.WalkKit
import Derived.Test.YtaohipgfnnclhaaProg
import Derived.JoinedCond
import Derived.Test.YtaohipgfnnclhaaPart5
/-
  Chapter 9: the law MergeKeeps over what the program owes.
-/
namespace Go.Proofs.Ytaohipgfnnclhaa
open Go.RowKit
set_option linter.unusedSimpArgs false
set_option linter.unusedVariables false
namespace Mg
open Mt (Ver mayB lessB placeB VerIn verV)
open Vs (Vers At VersIn vcs)
open Tb (ver0 getD_at own_after lower_row)

/-- of a row, floors, whether it is the bottom: tells what somebody may still see; the floors may change then -/
def KeepOk : Prop := ∀ (sv : Value) (L : List Ver) (T : Sq.Blocks) (fv : Value) (fl : List Int) (bt : Bool) (w : World), Tells w sv L T → (∀ x ∈ L, VerIn x) → L.length ≤ 1048576 → Us w.heap.size w fv fl → (∀ x ∈ fl, 0 ≤ x ∧ x ≤ 18446744073709551615) → fl.length ≤ 1048576 →
    Calls Try.prog 14 #[sv, fv, .bool bt] w fun e w' => ∃ u T', e = .returned u ∧ Tells w' u (keep L fl bt) T' ∧ (∀ k, T' k → T k ∨ w.heap.size ≤ k) ∧ Below w.heap.size w w'
/-- of no row: tells nothing -/
def KeepNilOk : Prop := ∀ (fv : Value) (fl : List Int) (bt : Bool) (w : World), Us w.heap.size w fv fl → (∀ x ∈ fl, 0 ≤ x ∧ x ≤ 18446744073709551615) → fl.length ≤ 1048576 →
    Calls Try.prog 14 #[.nilFunc, fv, .bool bt] w fun e w' => ∃ u T', e = .returned u ∧ Tells w' u [] T' ∧ Below w.heap.size w w'

theorem cutL_max (L : List Ver) (most : Int) : cutL L (max most 0) = cutL L most := by
  unfold cutL
  by_cases h : 0 < most
  · rw [show max most 0 = most by omega]
  · rw [show max most 0 = 0 by omega, if_neg (by omega), if_neg h]
set_option maxHeartbeats 1000000 in
/-- the first ones of a list -/
theorem head_any (a : Option Addr) (cap : Nat) (L : List Ver) (most : Int) (B : Nat) (w : World) (hV : Vers B w (.slice a L.length cap) L) (hcl : L.length ≤ cap) (hm : -9223372036854775808 ≤ most ∧ most ≤ 9223372036854775807) (hL : L.length ≤ 1099511627776) :
    Calls Try.prog 13 #[.slice a L.length cap, .int .i64 most] w fun e w' => e = .returned (.slice a (cutL L most).length cap) ∧ w' = w := by
  obtain ⟨a', cap', fb, fo, hsl, ha, hcells⟩ := hV
  injection hsl with e1 e2 e3
  subst e1 e3
  clear hcells
  go_enter Try.func13, Try.ntmps13
  by_cases h0 : 0 < most
  · by_cases h1 : most < (L.length : Int)
    · obtain ⟨n, rfl⟩ : ∃ n : Nat, most = (n : Int) := ⟨most.toNat, by omega⟩
      have hE := Lib.hid (show cutL L (n : Int) = L.take n by unfold cutL; rw [if_pos h0, Int.toNat_natCast])
      have hn : n ≤ L.length := by omega
      go_wp2_with fail
      go_ret
      exact ⟨by rw [hE.out, List.length_take, Nat.min_eq_left hn]; rfl, rfl⟩
    · have hE := Lib.hid (show cutL L most = L by unfold cutL; rw [if_pos h0, List.take_of_length_le (by omega)])
      go_wp2_with fail
      go_ret
      exact ⟨by rw [hE.out]; rfl, rfl⟩
  · have hE := Lib.hid (show cutL L most = L by unfold cutL; rw [if_neg h0])
    go_wp2_with fail
    go_ret
    exact ⟨by rw [hE.out]; rfl, rfl⟩

theorem vers_cut {a : Option Addr} {cap : Nat} {L : List Ver} (most : Int) {B : Nat} {w : World} (hV : Vers B w (.slice a L.length cap) L) : Vers B w (.slice a (cutL L most).length cap) (cutL L most) := by
  obtain ⟨a', cap', fb, fo, hsl, ha, hcells⟩ := hV
  injection hsl with e1 e2 e3
  subst e1 e3
  unfold cutL
  split
  · exact ⟨a, cap, fb, fo, rfl, fun h' => ha (by rw [List.length_take] at h'; omega), fun j hj => by rw [List.getElem_take]; exact hcells j (by rw [List.length_take] at hj; omega)⟩
  · exact ⟨a, cap, fb, fo, rfl, ha, hcells⟩

theorem info_u64 : (Try.prog.info? 39).map (fun i => (i.zero, i.size, i.bytes)) = some (some (.int .u64 0), 1, 8) := by kernel_rfl
def uc (l : List Int) : List Value := l.map fun x => .int .u64 x
theorem uc_len (l : List Int) : (uc l).length = l.length := by simp [uc]
theorem uc_set (l : List Int) (k : Nat) (x : Int) : (uc l).set k (.int .u64 x) = uc (l.set k x) := by simp [uc, List.map_set]
theorem made_u64 (n : Nat) : (madeCells (Value.int .u64 0).cells (n * 1)).toList = List.replicate n (.int .u64 0) := by
  rw [show (Value.int .u64 0).cells = #[Value.int .u64 0] from rfl, Nat.mul_one, toList_madeCells_one]
theorem splice_allU (n : Nat) (l : List Value) (h : l.length = n) : splice (List.replicate n (.int .u64 0)) 0 l = l := by
  unfold splice
  simp [h]
theorem row_wholeU {W : World} {base g n : Nat} {e : TypeId} {xs : List Value} (h : W.ownsRow base e 1 (.slice (some ⟨g, 0, none⟩) n n) n xs) : W.heap[g]? = some (.cells xs.toArray e (0, 0)) := by
  rcases h.2 with ⟨h1, _⟩ | ⟨g', cap', cur, h1, _, h3, _, _, h6, h7⟩
  · simp at h1
  · simp at h1
    obtain ⟨rfl, rfl⟩ := h1
    have : cur.toList = xs := by rw [← h7, List.take_of_length_le (by simp [h6])]
    rw [h3, ← this]
theorem us_src {B : Nat} {W : World} {a : Option Addr} {cap : Nat} {l : List Int} (h : Us B W (.slice a l.length cap) l) (g : Nat) :
    0 < (uc l).length → (some (⟨g, 0, none⟩ : Addr)) = some ⟨g, 0, none⟩ ∧ ∃ ad, a = some ad ∧ ∀ j v, (uc l)[j]? = some v → W.cell? (ad.add j) = some v := by
  intro h0
  rw [uc_len] at h0
  obtain ⟨a', cap', b, off, hv, ha, hc⟩ := h
  simp only [Value.slice.injEq, true_and] at hv
  obtain ⟨rfl, rfl⟩ := hv
  refine ⟨rfl, ⟨b, off, none⟩, (ha h0).1, fun j v hj => ?_⟩
  have hj' : j < l.length := by have := (List.getElem?_eq_some_iff.1 hj).1; rwa [uc_len] at this
  have hp : (⟨b, off, none⟩ : Addr).add j = ⟨b, off + j, none⟩ := by unfold Addr.add; split <;> simp_all
  rw [hp, hc j hj']
  simpa [uc, hj'] using hj
theorem Us.below {B : Nat} {W W' : World} {v : Value} {l : List Int} (h : Us B W v l) (hb : Below B W W') : Us B W' v l := by
  obtain ⟨a, cap, b, off, h1, h2, h3⟩ := h
  exact ⟨a, cap, b, off, h1, h2, fun j hj => (hb.cell (p := ⟨b, off + j, none⟩) (h2 (by omega)).2).trans (h3 j hj)⟩
theorem Us.grow {B B' : Nat} {W W' : World} {v : Value} {l : List Int} (h : Us B W v l) (hb : Below B W W') (hB : B ≤ B') : Us B' W' v l := by
  obtain ⟨a, cap, b, off, h1, h2, h3⟩ := h.below hb
  exact ⟨a, cap, b, off, h1, fun h => ⟨(h2 h).1, Nat.lt_of_lt_of_le (h2 h).2 hB⟩, h3⟩
theorem us_of_own {W : World} {B n : Nat} {te : TypeId} {v : Value} {l : List Int} (hn : n = l.length) (h : W.ownsRow B te 1 v n (uc l)) : Us W.heap.size W v l := by
  subst hn
  obtain ⟨a, cap, b, rfl, _, _, h3⟩ := Gn.row_at h
  refine ⟨a, cap, b, 0, rfl, fun h => ⟨(h3 h).1, (h3 h).2.2.1⟩, fun j hj => ?_⟩
  obtain ⟨_, _, _, hc⟩ := h3 (by omega)
  have := hc j (by omega)
  rw [Nat.zero_add]
  rw [this]
  simp [uc, hj]

theorem keep_len (L : List Ver) (fl : List Int) (bt : Bool) : (keep L fl bt).length ≤ L.length :=
  kpF_len fl bt L L.length
def KpPost (w w2 : World) (K : List Ver) (r : Value) (wx : World) : Prop := (∃ T, Tells wx r K T ∧ ∀ k, T k → k < w.heap.size ∨ w2.heap.size ≤ k) ∧ Below w2.heap.size w2 wx

set_option maxRecDepth 100000 in
set_option maxHeartbeats 4000000 in
theorem mergeKeeps_walk (KO : KeepOk) (KN : KeepNilOk) (lv fv : Value) (L : List Ver) (fl : List Int) (bt : Bool) (most : Int) (w : World) (hV : VersIn w lv L) (hF : Us w.heap.size w fv fl) (hf0 : ∀ x ∈ fl, 0 ≤ x ∧ x ≤ 18446744073709551615) (hfl : fl.length ≤ 1048576) (hm0 : -9223372036854775808 ≤ most) (hm1 : most ≤ 9223372036854775807) :
    Calls Try.prog 4 #[.agg #[lv, fv, .bool bt, .int .i64 most]] w fun e w' => e = .returned (.bool true) ∧ Below w.heap.size w w' := by
  have hmany := hV.many
  have HVV := Lib.hid hV
  have HFF := Lib.hid hF
  obtain ⟨la, lcap, lb, loff, hlv, _⟩ := hV.vers
  subst hlv
  obtain ⟨fa, fcap, fb, foff, hfv, _⟩ := hF
  subst hfv
  obtain ⟨wA, hwA⟩ : ∃ wA, w.alloc (.cells #[.slice la L.length lcap, .slice fa fl.length fcap, .bool bt, .int .i64 most] 36) = wA := ⟨_, rfl⟩
  have bA : Below w.heap.size w wA := by rw [← hwA]; exact (Below.refl _ _).alloc (Nat.le_refl _) _
  have oA : Ob.Obj wA w.heap.size 36 [.slice la L.length lcap, .slice fa fl.length fcap, .bool bt, .int .i64 most] := by rw [← hwA]; exact Ob.Obj.new w _ _
  have HZA := Lib.hid (show wA.heap.size = w.heap.size + 1 by rw [← hwA]; simp)
  have a0 := oA.cell 0
  have a1 := oA.cell 1
  have a2 := oA.cell 2
  have a3 := oA.cell 3
  simp at a0 a1 a2 a3
  have hlA := oA.lt
  have HWA := Lib.hid hwA
  clear hwA
  obtain ⟨i0, hi0, hz0, hz1, hz2⟩ := info_parts info_u64
  go_enter Try.func4, Try.ntmps4
  have hinfo : (Try.prog.info? 39).map (·.size) = some 1 := by rw [hi0]; simp [hz1]
  have HFA := Lib.hid (HFF.out.grow bA bA.size)
  go_wp2_with (first
    | (rw [HWA.out]; refine wpList_make_full _ (by rfl) _ _ 34 (by rfl) wA.heap.size 39 i0 (.int .u64 0) 1 Try.underlying34 hi0 hz0 hz1 .i64 .i64 (fl.length : Int) (fl.length : Int) fl.length (by rfl) (by rfl) rfl rfl (by rw [hz2]; omega) (by unfold maxLen; omega) (Nat.le_refl _) ?_; intro w1 hown hgrow; rw [made_u64] at hown; have b1 : Below wA.heap.size wA w1 := (Below.refl _ _).grown hgrow (Nat.le_refl _) (fun k hk => by cases hk); have hg1 := row_wholeU hown; have a1b := (b1.cell (p := ⟨w.heap.size, 1, none⟩) hlA).trans a1)
    | (refine wpList_copy_splice (by rfl) _ _ _ _ (by rfl) 39 Try.underlying34 hinfo (some ⟨wA.heap.size, 0, none⟩) fa fl.length fl.length fl.length fcap (by rfl) (by rfl) wA.heap.size 0 (List.replicate fl.length (.int .u64 0)) 39 hg1 (uc fl) (by rw [uc_len]; simp) (us_src (HFA.out.grow b1 b1.size) wA.heap.size) (by rw [uc_len]; simp) (fun v hv => by obtain ⟨x, _, rfl⟩ := List.mem_map.1 hv; rfl) wA.heap.size wA b1 (Nat.le_refl _) ?_; intro w2 hg2 b2; have hg2' := hg2.out; rw [splice_allU _ _ (uc_len fl)] at hg2'))
  have hz2' : wA.heap.size < w2.heap.size := by
    rcases Nat.lt_or_ge wA.heap.size w2.heap.size with h | h
    · exact h
    · rw [Array.getElem?_eq_none h] at hg2'; cases hg2'
  have how : w2.ownsRow wA.heap.size 39 1 (.slice (some ⟨wA.heap.size, 0, none⟩) fl.length fl.length) fl.length (uc fl) :=
    ⟨by rw [uc_len, Nat.mul_one], .inr ⟨wA.heap.size, fl.length, (uc fl).toArray, rfl, Nat.le_refl _, hg2', Nat.le_refl _, by unfold maxLen; omega, by simp [uc_len], by rw [List.take_of_length_le (by simp [uc_len])]⟩⟩
  have B2 := bA.trans (b2.mono bA.size)
  have HU2 := Lib.hid (show Us w2.heap.size w2 (.slice (some ⟨wA.heap.size, 0, none⟩) fl.length fl.length) fl from us_of_own rfl how)
  have HOW := Lib.hid (show w2.ownsRow wA.heap.size 39 1 (.slice (some ⟨wA.heap.size, 0, none⟩) fl.length fl.length) fl.length (uc fl) from how)
  have c0 := (b2.cell (p := ⟨w.heap.size, 0, none⟩) hlA).trans a0
  have c2 := (b2.cell (p := ⟨w.heap.size, 2, none⟩) hlA).trans a2
  have hl2 : w.heap.size < w2.heap.size := by omega
  have HROW := Lib.hid (fun W (h : Below w2.heap.size w2 W ∧ W.cell? ⟨w.heap.size, 0, none⟩ = some (.slice la L.length lcap) ∧ W.cell? ⟨w.heap.size, 2, none⟩ = some (.bool bt)) => (row_anyT (.slice la L.length lcap) L w.heap.size W (HVV.out.vers.below (B2.trans (h.1.mono B2.size))) (Nat.le_trans B2.size h.1.size) (by omega)).mono (R' := fun e w' => ∃ u T, e = .returned u ∧ Tells w' u L T ∧ (∀ k, T k → k < w.heap.size ∨ w2.heap.size ≤ k) ∧ Below W.heap.size W w') (by
    rintro e w' ⟨u, T, h1, h2, h3, h4⟩
    exact ⟨u, T, h1, h2, fun k hk => (h3 k hk).imp id (Nat.le_trans h.1.size), h4⟩))
  have HKO := Lib.hid (fun sv T W (h : Tells W sv L T) (hd : ∀ k, T k → k < w.heap.size ∨ w2.heap.size ≤ k) (h2 : Below w2.heap.size w2 W ∧ W.cell? ⟨w.heap.size, 0, none⟩ = some (.slice la L.length lcap) ∧ W.cell? ⟨w.heap.size, 2, none⟩ = some (.bool bt)) => (KO sv L T (.slice (some ⟨wA.heap.size, 0, none⟩) fl.length fl.length) fl bt W h HVV.out.each hmany (HU2.out.grow h2.1 h2.1.size) hf0 hfl).mono (R' := fun e w' => ∃ u T', e = .returned u ∧ Tells w' u (keep L fl bt) T' ∧ (∀ k, T' k → k < w.heap.size ∨ w2.heap.size ≤ k) ∧ Below W.heap.size W w') (by
    rintro e w' ⟨u, T', h3, h4, h5, h6⟩
    exact ⟨u, T', h3, h4, fun k hk => (h5 k hk).elim (hd k) (fun h => .inr (Nat.le_trans h2.1.size h)), h6⟩))
  have HKR := Lib.hid (fun W (h : Below w.heap.size w W) => keepR9_any (.slice la L.length lcap) (.slice fa fl.length fcap) fl bt L W (HVV.out.vers.grow h h.size) (HFF.out.grow h h.size) hmany hfl)
  have HKN := Lib.hid (fun ys W (h : Us W.heap.size W (.slice (some ⟨wA.heap.size, 0, none⟩) fl.length fl.length) ys) h2 h3 => KN (.slice (some ⟨wA.heap.size, 0, none⟩) fl.length fl.length) ys bt W h h2 h3)
  have hkl : (keep L fl bt).length ≤ L.length := keep_len L fl bt
  generalize keep L fl bt = K at *
  clear KO KN hg1 hg2' how hown b1
  simp only [uc_len, Act.put, Array.set!_eq_setIfInBounds, List.setIfInBounds_toArray, List.set_cons_succ, List.set_cons_zero]
  go_cut [4] from 18 to 24 (fun r wx => KpPost w w2 K r wx)
  case first =>
    have HS0 := Lib.hid (show Below w2.heap.size w2 w2 ∧ w2.cell? ⟨w.heap.size, 0, none⟩ = some (.slice la L.length lcap) ∧ w2.cell? ⟨w.heap.size, 2, none⟩ = some (.bool bt) from ⟨Below.refl _ _, c0, c2⟩)
    have HS1 := Lib.hid (show Below w2.heap.size w2 w2.drew ∧ w2.drew.cell? ⟨w.heap.size, 0, none⟩ = some (.slice la L.length lcap) ∧ w2.drew.cell? ⟨w.heap.size, 2, none⟩ = some (.bool bt) from ⟨(Below.refl _ _).drew, c0, c2⟩)
    have NX := Lib.hid (fun W W' (h : Below w2.heap.size w2 W ∧ W.cell? ⟨w.heap.size, 0, none⟩ = some (.slice la L.length lcap) ∧ W.cell? ⟨w.heap.size, 2, none⟩ = some (.bool bt)) (hb : Below W.heap.size W W') => show Below w2.heap.size w2 W' ∧ W'.cell? ⟨w.heap.size, 0, none⟩ = some (.slice la L.length lcap) ∧ W'.cell? ⟨w.heap.size, 2, none⟩ = some (.bool bt) from
      have h7 : Below w2.heap.size w2 W' := h.1.trans (hb.mono h.1.size)
      ⟨h7, (h7.cell (p := ⟨w.heap.size, 0, none⟩) hl2).trans c0, (h7.cell (p := ⟨w.heap.size, 2, none⟩) hl2).trans c2⟩)
    clear a0 a1 a2 a3 a1b c0 c2
    go_region_held3 (fun W => Below w2.heap.size w2 W ∧ W.cell? ⟨w.heap.size, 0, none⟩ = some (.slice la L.length lcap) ∧ W.cell? ⟨w.heap.size, 2, none⟩ = some (.bool bt))
      (first | exact HS0.out | exact HS1.out | exact NX.out _ _ (by assumption) hb9)
      (first
      | (go_at_call 15; (with_reducible refine (HROW.out _ (by assumption)).mono ?_); rintro e w9 ⟨u9, T9, rfl, ht9, hd9, hb9⟩)
      | (go_at_call 14; (with_reducible refine (HKO.out _ _ _ ht9 hd9 (by assumption)).mono ?_); rintro e w9 ⟨u8, T8, rfl, ht8, hd8, hb9⟩))
    go_wp2_with fail
    go_meet
    exact ⟨⟨_, ht8, hd8⟩, (show Below w2.heap.size w2 _ ∧ _ from by assumption).1⟩
  case rest =>
    obtain ⟨⟨T, hT, hTd⟩, hbd⟩ := hcut
    have HD := Lib.hid hTd
    have HB0 := Lib.hid (b2.trans (hbd.mono b2.size))
    have HO := Lib.hid (own_after HOW.out hbd)
    have HA := Lib.hid (show wA.cell? ⟨w.heap.size, 0, none⟩ = some (.slice la L.length lcap) ∧ wA.cell? ⟨w.heap.size, 1, none⟩ = some (.slice fa fl.length fcap) ∧ wA.cell? ⟨w.heap.size, 2, none⟩ = some (.bool bt) ∧ wA.cell? ⟨w.heap.size, 3, none⟩ = some (.int .i64 most) from ⟨a0, a1, a2, a3⟩)
    clear a0 a1 a2 a3 a1b c0 c2 hTd hbd HROW HKO
    go_wp2_with fail
    go_loopw [5] (fun iv wr => ∃ (q : Nat) (ys : List Int), q ≤ fl.length ∧ iv = .int .i64 (q : Int) ∧ ys.length = fl.length ∧ (∀ y ∈ ys, 0 ≤ y ∧ y ≤ 18446744073709551615) ∧ wr.ownsRow wA.heap.size 39 1 (.slice (some ⟨wA.heap.size, 0, none⟩) fl.length fl.length) fl.length (uc ys) ∧ Tells wr u4 K T ∧ Below wA.heap.size wA wr) (fun iv _ => fl.length - (intOf iv).toNat)
    case atStart => exact ⟨0, fl, Nat.zero_le _, rfl, rfl, hf0, HO.out, hT, HB0.out⟩
    case round =>
      obtain ⟨q, ys, hq, rfl, hys, hyr, own, hTr, hB⟩ := hrel
      by_cases hlt : q < fl.length
      · have hxl : (uc ys).length = fl.length := by rw [uc_len, hys]
        obtain ⟨cv, hcell⟩ : ∃ cv, wr.cell? ⟨wA.heap.size, q, none⟩ = some cv := ⟨_, (own.cellAt q (by omega)).trans (List.getElem?_eq_getElem (by omega))⟩
        have hfr := own.frozenAt q
        have hi1 : (0 : Int) ≤ (q : Int) ∧ (q : Int) < (fl.length : Int) := by omega
        have HST := Lib.hid (uc_set ys q 5 ▸ (World.ownsRow.stored own q (.int .u64 5)).1)
        have HT2 := Lib.hid (hTr.kept (Sq.Kept.setCell (T := T) wr (p := ⟨wA.heap.size, q, none⟩) (.int .u64 5) (fun hs => by have h1 := HD.out wA.heap.size hs; have h2 := HZA.out; omega)))
        have HB2 := Lib.hid (hB.setCell (p := ⟨wA.heap.size, q, none⟩) (Nat.le_refl _) (.int .u64 5))
        have HY := Lib.hid (show ∀ y ∈ ys.set q 5, 0 ≤ y ∧ y ≤ 18446744073709551615 from fun y hy => by
          rcases List.mem_or_eq_of_mem_set hy with h | rfl
          · exact hyr y h
          · omega)
        have HYL := Lib.hid (show (ys.set q 5).length = fl.length by simpa using hys)
        clear own hTr hB hxl hys hyr
        go_wp2_with fail
        go_roundw
        case rel => exact ⟨q + 1, _, by omega, by go_num, HYL.out, HY.out, HST.out, HT2.out, HB2.out⟩
        case measure => simp [intOf]; omega
      · obtain rfl : q = fl.length := by omega
        obtain ⟨e0, e1, e2, e3⟩ := HA.out
        have e0' := (hB.cell (p := ⟨w.heap.size, 0, none⟩) hlA).trans e0
        have e1' := (hB.cell (p := ⟨w.heap.size, 1, none⟩) hlA).trans e1
        have e2' := (hB.cell (p := ⟨w.heap.size, 2, none⟩) hlA).trans e2
        have e3' := (hB.cell (p := ⟨w.heap.size, 3, none⟩) hlA).trans e3
        have hBw := bA.trans (hB.mono bA.size)
        have hlr : w.heap.size < wr.heap.size := by have := hB.size; omega
        clear e0 e1 e2 e3
        go_wp2_with (go_at_call 16; (with_reducible refine (HKR.out _ hBw).mono ?_); rintro e w4 ⟨v4, rfl, hown4, hb4⟩; obtain ⟨pa, pcap, rfl, hpg⟩ := Sq.row_cases hown4; have hpc := row_cap hown4; have f2 := (hb4.cell (p := ⟨w.heap.size, 2, none⟩) hlr).trans e2'; have f3 := (hb4.cell (p := ⟨w.heap.size, 3, none⟩) hlr).trans e3')
        have hB4 := hBw.trans (hb4.mono hBw.size)
        have hl4 : w.heap.size < w4.heap.size := by have := hb4.size; omega
        have HV4 := Lib.hid (Vs.vers_of_own hown4)
        have HT4 := Lib.hid (hTr.below hb4)
        have HU4 := Lib.hid ((us_of_own hys.symm own).grow hb4 hb4.size)
        have HYR := Lib.hid hyr
        have HYS := Lib.hid hys
        have HLI := Lib.hid (fun m W (hm : -9223372036854775808 ≤ m ∧ m ≤ 9223372036854775807) (h : Below w4.heap.size w4 W) => list_any u4 m K T W hm (by omega) (HT4.out.below h))
        have HLN := Lib.hid (fun sv T W (h : Tells W sv [] T) => list_any sv 0 [] T W (by omega) (by simp) h)
        have HSM := Lib.hid (fun u v L' W (h1 : Vers W.heap.size W u L') (h2 : Vers W.heap.size W v L') (h3 : L'.length ≤ 4611686018427387904) => Mt.sameR_eq u v L' W h1 h2 h3)
        have hcu := vers_cut most HV4.out
        have hc0 : cutL K 0 = K := cutL_all (.inl (Int.le_refl _))
        have hcl : (cutL K most).length ≤ K.length := by unfold cutL; split; simp; omega; exact Nat.le_refl _
        have HHD := Lib.hid (fun W (h : Below w4.heap.size w4 W) => (head_any pa pcap K (max most 0) w4.heap.size W (HV4.out.below h) hpc (by omega) (by omega)).mono (R' := fun e w' => e = .returned (.slice pa (cutL K most).length pcap) ∧ w' = W) (by
          rintro e w' ⟨h1, h2⟩
          rw [cutL_max] at h1
          exact ⟨h1, h2⟩))
        have HCU := Lib.hid (fun W (h : Below w4.heap.size w4 W) => hcu.grow h h.size)
        have HC0 := Lib.hid hc0
        clear hcu hc0 own hown4 hTr hb4 hys hyr e0' e1' e2' e3' hpc
        generalize hcd : cutL K most = C at *
        go_cut [7] from 41 to 50 (fun r wx => r = .bool true ∧ Below w4.heap.size w4 wx)
        case first =>
          have HS0 := Lib.hid (show Below w4.heap.size w4 w4 ∧ w4.cell? ⟨w.heap.size, 3, none⟩ = some (.int .i64 most) from ⟨Below.refl _ _, f3⟩)
          have HS1 := Lib.hid (show Below w4.heap.size w4 w4.drew ∧ w4.drew.cell? ⟨w.heap.size, 3, none⟩ = some (.int .i64 most) from ⟨(Below.refl _ _).drew, f3⟩)
          have NX := Lib.hid (fun W W' (h : Below w4.heap.size w4 W ∧ W.cell? ⟨w.heap.size, 3, none⟩ = some (.int .i64 most)) (hb : Below W.heap.size W W') => show Below w4.heap.size w4 W' ∧ W'.cell? ⟨w.heap.size, 3, none⟩ = some (.int .i64 most) from
            have h7 : Below w4.heap.size w4 W' := h.1.trans (hb.mono h.1.size)
            ⟨h7, (h7.cell (p := ⟨w.heap.size, 3, none⟩) hl4).trans f3⟩)
          have HL1 := Lib.hid (fun W (h : Below w4.heap.size w4 W ∧ W.cell? ⟨w.heap.size, 3, none⟩ = some (.int .i64 most)) => HLI.out most W ⟨hm0, hm1⟩ h.1)
          rw [hcd] at HL1
          have HH1 := Lib.hid (fun W (h : Below w4.heap.size w4 W ∧ W.cell? ⟨w.heap.size, 3, none⟩ = some (.int .i64 most)) => HHD.out W h.1)
          have HC1 := Lib.hid (fun W (h : Below w4.heap.size w4 W ∧ W.cell? ⟨w.heap.size, 3, none⟩ = some (.int .i64 most)) => HCU.out W h.1)
          clear f2 f3
          go_region_held3 (fun W => Below w4.heap.size w4 W ∧ W.cell? ⟨w.heap.size, 3, none⟩ = some (.int .i64 most))
            (first | exact HS0.out | exact HS1.out | exact NX.out _ _ (by assumption) hb9 | assumption)
            (first
            | (go_at_call 12; (with_reducible refine (HL1.out _ (by assumption)).mono ?_); rintro e w9 ⟨u9, rfl, ho9, hb9⟩; have hv9 := Lib.hid (Vs.vers_of_own ho9); clear ho9)
            | (go_at_call 13; (with_reducible refine (HH1.out _ (by assumption)).mono ?_); rintro e w8 ⟨rfl, rfl⟩)
            | (go_at_call 11; (with_reducible refine (HSM.out _ _ C _ hv9.out (HC1.out _ (by assumption)) (by omega)).mono ?_); rintro e w9 ⟨rfl, hb9⟩))
          all_goals (first | go_meet | (go_wp2_with fail; go_meet))
          all_goals exact ⟨rfl, (show Below w4.heap.size w4 _ ∧ _ from by assumption).1⟩
        case rest =>
          obtain ⟨rfl, hbd⟩ := hcut
          have g2 := (hbd.cell (p := ⟨w.heap.size, 2, none⟩) hl4).trans f2
          have hB5 := hB4.trans (hbd.mono hB4.size)
          have hlc : w.heap.size < wc.heap.size := by have := hbd.size; omega
          have HK5 := Lib.hid (HV4.out.grow hbd hbd.size)
          have HL5 := Lib.hid (HLI.out 0 wc (by omega) hbd)
          have HU5 := Lib.hid (HU4.out.grow hbd hbd.size)
          rw [HC0.out] at HL5
          clear f2 f3 HLI HHD HCU
          go_wp2_with (first
            | (go_at_call 12; ((with_reducible refine (HL5.out).mono ?_); rintro e w5 ⟨u5, rfl, ho5, hb5⟩; have hv5 := Lib.hid (Vs.vers_of_own ho5); have hK5 := Lib.hid (HK5.out.grow hb5 hb5.size); have hU6 := Lib.hid (HU5.out.grow hb5 hb5.size); have i2 := (hb5.cell (p := ⟨w.heap.size, 2, none⟩) hlc).trans g2; have hl5 : w.heap.size < w5.heap.size := (by have := hb5.size; omega); have hB6 := hB5.trans (hb5.mono hB5.size); clear ho5))
            | (go_at_call 11; (with_reducible refine (HSM.out _ _ K _ hv5.out hK5.out (by omega)).mono ?_); rintro e w6 ⟨rfl, hb6⟩; have hU7 := Lib.hid (hU6.out.grow hb6 hb6.size); have j2 := (hb6.cell (p := ⟨w.heap.size, 2, none⟩) hl5).trans i2; have hB7 := hB6.trans (hb6.mono hB6.size))
            | (go_at_call 14; (with_reducible refine (HKN.out ys _ hU7.out HYR.out (by have := HYS.out; omega)).mono ?_); rintro e w7 ⟨u7, T7, rfl, ht7, hb7⟩; have hB8 := hB7.trans (hb7.mono hB7.size))
            | (go_at_call 12; (with_reducible refine (HLN.out _ _ _ ht7).mono ?_); rintro e w8 ⟨u8, rfl, ho8, hb8⟩; obtain ⟨na, ncap, rfl, hng⟩ := Sq.row_cases ho8; have hB9 := hB8.trans (hb8.mono hB8.size)))
          go_ret
          exact ⟨rfl, hB9⟩
end Mg
end Go.Proofs.Ytaohipgfnnclhaa

/-
  tapestrylaw09: lists as sequences (rows).
-/
namespace Go.Proofs.Ytaohipgfnnclhaa
open Go.RowKit Go.Shelf
set_option linter.unusedSimpArgs false
set_option linter.unusedVariables false
namespace Mg
open Mt (Ver mayB lessB placeB VerIn verV)
open Vs (Vers At vcs)
open Tb (ver0 getD_at own_after lower_row)
/-- a value that tells this list, or nil for an empty one -/
def InV (w : World) (f : Value) (L : List Ver) (T : Sq.Blocks) : Prop := (f = .nilFunc ∧ L = []) ∨ ∃ T', Tells w f L T' ∧ ∀ k, T' k → T k
/-- the first n lists, as sequences -/
def InN (w : World) (vs : List Value) (Ls : List (List Ver)) (n : Nat) (T : Sq.Blocks) : Prop := vs.length = n ∧ ∀ (j : Nat) (f : Value) (L : List Ver), vs[j]? = some f → Ls[j]? = some L → InV w f L T
theorem InV.kept {w w' : World} {f : Value} {L : List Ver} {T T2 : Sq.Blocks} (h : InV w f L T) (hk : Sq.Kept T w w') (hT : ∀ k, k < w.heap.size → T k → T2 k) : InV w' f L T2 := by
  rcases h with h | ⟨T', h1, h2⟩
  · exact .inl h
  · refine .inr ⟨T', h1.kept (hk.less fun k hk _ => h2 k hk), fun k hk => hT k ?_ (h2 k hk)⟩
    obtain ⟨_, _, _, _, h3, _⟩ := h1
    exact h3 k hk
theorem InN.kept {w w' : World} {vs : List Value} {Ls : List (List Ver)} {n : Nat} {T T2 : Sq.Blocks} (h : InN w vs Ls n T) (hk : Sq.Kept T w w') (hT : ∀ k, k < w.heap.size → T k → T2 k) : InN w' vs Ls n T2 :=
  ⟨h.1, fun j f L h1 h2 => (h.2 j f L h1 h2).kept hk hT⟩
theorem InN.snoc {w : World} {vs : List Value} {Ls : List (List Ver)} {n : Nat} {T : Sq.Blocks} {f : Value} {L : List Ver} (h : InN w vs Ls n T) (hL : Ls[n]? = some L) (hf : InV w f L T) : InN w (vs ++ [f]) Ls (n + 1) T := by
  refine ⟨by simp [h.1], fun j f' L' h1 h2 => ?_⟩
  rcases Nat.lt_trichotomy j n with hj | hj | hj
  · rw [List.getElem?_append_left (by rw [h.1]; exact hj)] at h1
    exact h.2 j f' L' h1 h2
  · subst hj
    rw [List.getElem?_append_right (by rw [h.1]; exact Nat.le_refl _), h.1, Nat.sub_self] at h1
    simp at h1
    rw [hL] at h2
    cases h2
    rw [← h1]; exact hf
  · rw [List.getElem?_eq_none (by simp [h.1]; omega)] at h1
    cases h1
theorem Tells.one {w : World} {f : Value} {L : List Ver} {T : Sq.Blocks} (h : Tells w f L T) : f.oneCell' = true := by
  obtain ⟨gf, lb, rfl, _⟩ := h; rfl
/-- all but such a row's own block -/
abbrev offB (u : Value) : Sq.Blocks := fun k => ∀ g, u.ownBlock = some g → k ≠ g
theorem info_Seq9 : (Try.prog.info? 26).map (fun i => (i.zero, i.size, i.bytes)) = some (some .nilFunc, 1, 8) := by kernel_rfl
theorem InN.grown {w w1 w2 : World} {vs : List Value} {Ls : List (List Ver)} {n g m cap : Nat} {u : Value} (h : InN w vs Ls n (offB u)) (hk : Sq.Kept (fun _ => True) w w1) (hgrow : w1.grownBy w2 u.ownBlock) (hat : u.ownBlock = some g ∨ w.heap.size ≤ g) :
    InN w2 vs Ls n (offB (.slice (some ⟨g, 0, none⟩) m cap)) := by
  refine h.kept ((hk.less (fun _ _ _ => trivial)).trans (Sq.Kept.grown hgrow (fun r hr h => h r hr rfl))) (fun k hk hT g' hg' => ?_)
  obtain rfl : g = g' := by simpa [Value.ownBlock] using hg'
  rcases hat with h | h
  · exact hT g h
  · omega

set_option maxRecDepth 100000 in
set_option maxHeartbeats 4000000 in
theorem rows_any (v : Value) (Ls : List (List Ver)) (w : World) (hV : VV w v Ls) (hLn : ∀ L ∈ Ls, L.length ≤ 1048576) (hn : Ls.length ≤ 1048576) :
    Calls Try.prog 8 #[v] w fun e w' => ∃ u vs, e = .returned u ∧ w'.ownsRow w.heap.size 26 1 u Ls.length vs ∧ InN w' vs Ls Ls.length (offB u) ∧ Below w.heap.size w w' := by
  obtain ⟨i0, hi0, hz0, hz1, hz2⟩ := info_parts info_Seq9
  obtain ⟨a, cap, fb, fo, rfl, ha, hcells⟩ := hV
  have HC := Lib.hid hcells
  have HL := Lib.hid hLn
  clear hcells hLn
  go_enter Try.func8, Try.ntmps8
  go_wp2_with fail
  go_loopw [3, 4] (fun u iv wr => ∃ (q : Nat) (vs : List Value), q ≤ Ls.length ∧ iv = .int .i64 (q : Int) ∧ wr.ownsRow w.heap.size 26 1 u q vs ∧ InN wr vs Ls q (offB u) ∧ Below w.heap.size w wr) (fun _ iv _ => Ls.length - (intOf iv).toNat)
  case atStart => exact ⟨0, [], Nat.zero_le _, rfl, World.ownsRow_nil _ _ _ _, ⟨rfl, fun j f L h => by simp at h⟩, Below.refl _ _⟩
  case round =>
    obtain ⟨q, vs, hq, rfl, own, hI, hB⟩ := hrel
    by_cases hlt : q < Ls.length
    · obtain ⟨rfl, hfb⟩ := ha (by omega)
      obtain ⟨ra, rcap, rb, ro, hc0, hra, hrc⟩ := HC.out q hlt
      have hc := (hB.cell (p := ⟨fb, fo + q, none⟩) hfb).trans hc0
      have hlen := HL.out Ls[q] (List.getElem_mem hlt)
      have HGT := Lib.hid (show Ls[q]? = some Ls[q] from List.getElem?_eq_getElem hlt)
      generalize Ls[q] = L at *
      have hi1 : (0 : Int) ≤ (q : Int) ∧ (q : Int) < (Ls.length : Int) := by omega
      have HR := Lib.hid (row_anyT (.slice ra L.length rcap) L w.heap.size wr ((show Vers w.heap.size w (.slice ra L.length rcap) L from ⟨ra, rcap, rb, ro, rfl, hra, hrc⟩).below hB) hB.size (by omega))
      have hHsz := hB.size
      have HBB := Lib.hid hB
      have HII := Lib.hid hI
      clear hc0 hra hrc hI
      by_cases hzz : L.length = 0 ∧ (q : Int) % 2 = 0
      · obtain ⟨hz, he⟩ := hzz
        have hLz := List.eq_nil_of_length_eq_zero hz
        subst hLz
        clear HR
        go_wp2_with (at_builtin; refine wpList_append_lies _ (by rfl) _ _ 23 (by rfl) w.heap.size 26 i0 .nilFunc 1 8 Try.underlying23 hi0 hz0 hz1 hz2 rfl (by omega) u3 q _ (by rfl) (own.alloc _) ⟨wr.heap.size, 0, none⟩ 1 1 [.nilFunc] (by rfl) (by rfl) (World.news_of_block (cs := #[.nilFunc]) (t := 26) (fr := (0, 0)) (heap_alloc_new wr _)) (by simp [Value.oneCell']) (by omega) (by unfold maxLen; omega) (by omega) (by simp; omega) (wr.heap.size + 1) (by simp) ?_; intro g gcap w2 hown2 hgrow hat hlt2; have HO2 := Lib.hid hown2; have HG2 := Lib.hid hgrow; have HT2 := Lib.hid hat; clear hown2 hgrow hat)
        go_roundw
        case rel => exact ⟨q + 1, _, by omega, by go_num, HO2.out, (HII.out.grown (Sq.Kept.alloc _ _ _) HG2.out (HT2.out.imp id (fun h => by omega))).snoc HGT.out (.inl ⟨rfl, rfl⟩), (HBB.out.alloc hHsz _).grown HG2.out (by simp; omega) (fun k hk => (Ob.row_lt own hk).1)⟩
        case measure => simp [intOf]; omega
      · have hor : ¬ (L.length = 0) ∨ (L.length = 0 ∧ ¬ ((q : Int) % 2 = 0)) := by omega
        have hgo : ∀ g, u3.ownBlock = some g → w.heap.size ≤ g ∧ g < wr.heap.size := fun g hg => Ob.row_lt own hg
        have HGO := Lib.hid hgo
        clear hgo hzz
        rcases hor with hz | ⟨hz, he⟩
        · go_wp2_with (first
            | (go_at_call 15; go_loud ((with_reducible refine (HR.out).mono ?_); rintro e w9 ⟨f9, T9, rfl, ht9, hd9, hb9⟩; obtain ⟨gf9, lb9, rfl, _⟩ := id ht9; have own9 := own_after own hb9; have hs9 := hb9.size))
            | (at_builtin; go_loud (refine wpList_append_lies _ (by rfl) _ _ 23 (by rfl) w.heap.size 26 i0 .nilFunc 1 8 Try.underlying23 hi0 hz0 hz1 hz2 rfl (by omega) u3 q _ (by rfl) (own9.alloc _) ⟨w9.heap.size, 0, none⟩ 1 1 [.func (.func gf9) #[] lb9] (by rfl) (by rfl) (World.news_of_block (cs := #[.func (.func gf9) #[] lb9]) (t := 26) (fr := (0, 0)) (heap_alloc_new w9 _)) (by simp [Value.oneCell']) (by omega) (by unfold maxLen; omega) (by omega) (by simp; omega) (w9.heap.size + 1) (by simp) ?_; intro g gcap w2 hown2 hgrow hat hlt2; have HO2 := Lib.hid hown2; have HG2 := Lib.hid hgrow; have HT2 := Lib.hid hat; clear hown2 hgrow hat)))
          go_roundw
          case rel =>
            refine ⟨q + 1, _, by omega, by go_num, HO2.out, InN.grown (w := w9) (u := u3) ((HII.out.kept (Sq.Kept.of_below hb9) (fun _ _ h => h)).snoc HGT.out (.inr ⟨T9, ht9, fun k hk g hg => ?_⟩)) (Sq.Kept.alloc _ _ _) HG2.out (HT2.out.imp id (fun h => by omega)), ((HBB.out.trans (hb9.mono hHsz)).alloc (by omega) _).grown HG2.out (by simp; omega) (fun k hk => (Ob.row_lt own hk).1)⟩
            have h1 := hd9 k hk
            have h2 := HGO.out g hg
            omega
          case measure => simp [intOf]; omega
        · have hLz := List.eq_nil_of_length_eq_zero hz
          subst hLz
          have HR := HR.out
          simp only [List.length_nil] at HR
          have HR := Lib.hid HR
          go_wp2_with (first
            | (go_at_call 15; go_loud ((with_reducible refine (HR.out).mono ?_); rintro e w9 ⟨f9, T9, rfl, ht9, hd9, hb9⟩; obtain ⟨gf9, lb9, rfl, _⟩ := id ht9; have own9 := own_after own hb9; have hs9 := hb9.size))
            | (at_builtin; go_loud (refine wpList_append_lies _ (by rfl) _ _ 23 (by rfl) w.heap.size 26 i0 .nilFunc 1 8 Try.underlying23 hi0 hz0 hz1 hz2 rfl (by omega) u3 q _ (by rfl) (own9.alloc _) ⟨w9.heap.size, 0, none⟩ 1 1 [.func (.func gf9) #[] lb9] (by rfl) (by rfl) (World.news_of_block (cs := #[.func (.func gf9) #[] lb9]) (t := 26) (fr := (0, 0)) (heap_alloc_new w9 _)) (by simp [Value.oneCell']) (by omega) (by unfold maxLen; omega) (by omega) (by simp; omega) (w9.heap.size + 1) (by simp) ?_; intro g gcap w2 hown2 hgrow hat hlt2; have HO2 := Lib.hid hown2; have HG2 := Lib.hid hgrow; have HT2 := Lib.hid hat; clear hown2 hgrow hat)))
          go_roundw
          case rel =>
            refine ⟨q + 1, _, by omega, by go_num, HO2.out, InN.grown (w := w9) (u := u3) ((HII.out.kept (Sq.Kept.of_below hb9) (fun _ _ h => h)).snoc HGT.out (.inr ⟨T9, ht9, fun k hk g hg => ?_⟩)) (Sq.Kept.alloc _ _ _) HG2.out (HT2.out.imp id (fun h => by omega)), ((HBB.out.trans (hb9.mono hHsz)).alloc (by omega) _).grown HG2.out (by simp; omega) (fun k hk => (Ob.row_lt own hk).1)⟩
            have h1 := hd9 k hk
            have h2 := HGO.out g hg
            omega
          case measure => simp [intOf]; omega
    · obtain rfl : q = Ls.length := by omega
      go_wp2_with fail
      go_ret
      exact ⟨_, vs, rfl, own, hI, hB⟩
end Mg
end Go.Proofs.Ytaohipgfnnclhaa

/-
  Chapter 9: the law MergeRows over what the program owes.
-/
namespace Go.Proofs.Ytaohipgfnnclhaa
open Go.RowKit
set_option linter.unusedSimpArgs false
set_option linter.unusedVariables false
namespace Mg
open Mt (Ver mayB lessB placeB VerIn verV)
open Vs (Vers At VersIn vcs)
open Tb (ver0 getD_at own_after lower_row)

/-- of several rows (nil ones are empty): tells them as one row; the slice may change then -/
def MergeOk : Prop := ∀ (v : Value) (vs : List Value) (Ls : List (List Ver)) (T : Sq.Blocks) (B : Nat) (w : World), w.ownsRow B 26 1 v Ls.length vs → InN w vs Ls Ls.length T → (∀ L ∈ Ls, ∀ x ∈ L, VerIn x) → (∀ L ∈ Ls, L.length ≤ 1048576) → Ls.length ≤ 1048576 → left Ls (zeros Ls) ≤ 1048576 →
    Calls Try.prog 9 #[v] w fun e w' => ∃ u T', e = .returned u ∧ Tells w' u (merge Ls) T' ∧ (∀ k, T' k → T k ∨ w.heap.size ≤ k) ∧ Below w.heap.size w w'
theorem VV.below {W W' : World} {v : Value} {Ls : List (List Ver)} (h : VV W v Ls) (hb : Below W.heap.size W W') : VV W' v Ls := by
  obtain ⟨a, cap, b, off, h1, h2, h3⟩ := h
  exact ⟨a, cap, b, off, h1, fun h => ⟨(h2 h).1, Nat.lt_of_lt_of_le (h2 h).2 hb.size⟩, fun j hj => (h3 j hj).below hb (h2 (by omega)).2⟩

set_option maxRecDepth 100000 in
set_option maxHeartbeats 4000000 in
theorem mergeRows_walk (MO : MergeOk) (lv : Value) (Ls : List (List Ver)) (most : Int) (w : World) (hV : VV w lv Ls) (hI : ∀ L ∈ Ls, ∀ x ∈ L, VerIn x) (hLn : ∀ L ∈ Ls, L.length ≤ 1048576) (hn : Ls.length ≤ 1048576) (hT : left Ls (zeros Ls) ≤ 1048576) (hm0 : -9223372036854775808 ≤ most) (hm1 : most ≤ 9223372036854775807) :
    Calls Try.prog 3 #[lv, .int .i64 most] w fun e w' => e = .returned (.bool true) ∧ Below w.heap.size w w' := by
  have HRW := Lib.hid (rows_any lv Ls w hV hLn hn)
  have HMO := Lib.hid (fun v vs T B W h1 h2 => MO v vs Ls T B W h1 h2 hI hLn hn hT)
  have HMR := Lib.hid (fun W (h : Below w.heap.size w W) => mergeR9_any lv Ls W (hV.below h) hI hLn hn hT)
  have hkl : (merge Ls).length ≤ 1048576 := Nat.le_trans (mergeA_len _ _ _) hT
  generalize merge Ls = K at *
  obtain ⟨la, lcap, lb, loff, rfl, _, _⟩ := hV
  clear MO hI hLn hT
  go_enter Try.func3, Try.ntmps3
  go_wp2_with (first
    | (go_at_call 8; (with_reducible refine (HRW.out).mono ?_); rintro e w1 ⟨v1, vs, rfl, own1, hI1, hb1⟩; obtain ⟨ia, icap, rfl, hig⟩ := Sq.row_cases own1)
    | (go_at_call 9; (with_reducible refine (HMO.out _ _ _ _ _ own1 hI1).mono ?_); rintro e w2 ⟨sv, T, rfl, ht2, hd2, hb2⟩))
  have HD := Lib.hid (show ∀ g, Value.ownBlock (.slice ia Ls.length icap) = some g → w.heap.size ≤ g ∧ ¬ T g from fun g hg => by
    have h1 := Ob.row_lt own1 hg
    refine ⟨h1.1, fun h => ?_⟩
    rcases hd2 g h with h2 | h2
    · exact h2 g hg rfl
    · omega)
  have HO := Lib.hid (own_after own1 hb2)
  have HB0 := Lib.hid (hb1.trans (hb2.mono hb1.size))
  have HLI := Lib.hid (fun m W (hm : -9223372036854775808 ≤ m ∧ m ≤ 9223372036854775807) (h : Tells W sv K T) => list_any sv m K T W hm (by omega) h)
  have HSM := Lib.hid (fun u v L' W (h1 : Vers W.heap.size W u L') (h2 : Vers W.heap.size W v L') (h3 : L'.length ≤ 4611686018427387904) => Mt.sameR_eq u v L' W h1 h2 h3)
  have HCM := Lib.hid (show (cutL K most).length ≤ K.length by unfold cutL; split; simp; omega; exact Nat.le_refl _)
  have HC0 := Lib.hid (show cutL K 0 = K from cutL_all (.inl (Int.le_refl _)))
  clear own1 hI1 hb1 hb2 hd2 HRW HMO
  go_loopw [7] (fun iv wr => ∃ (q : Nat) (xs : List Value), q ≤ Ls.length ∧ iv = .int .i64 (q : Int) ∧ wr.ownsRow w.heap.size 26 1 (.slice ia Ls.length icap) Ls.length xs ∧ Tells wr sv K T ∧ Below w.heap.size w wr) (fun iv _ => Ls.length - (intOf iv).toNat)
  case atStart => exact ⟨0, vs, Nat.zero_le _, rfl, HO.out, ht2, HB0.out⟩
  case round =>
    obtain ⟨q, xs, hq, rfl, own, hTr, hB⟩ := hrel
    by_cases hlt : q < Ls.length
    · obtain ⟨g, rfl, _, _⟩ := hig (by omega)
      obtain ⟨hg1, hg2⟩ := HD.out g rfl
      have hxl := own.1
      obtain ⟨cv, hcell⟩ : ∃ cv, wr.cell? ⟨g, q, none⟩ = some cv := ⟨_, (own.cellAt q (by omega)).trans (List.getElem?_eq_getElem (by omega))⟩
      have hfr := own.frozenAt q
      have hi1 : (0 : Int) ≤ (q : Int) ∧ (q : Int) < (Ls.length : Int) := by omega
      have HST := Lib.hid (World.ownsRow.stored own q .nilFunc).1
      have HT2 := Lib.hid (hTr.kept (Sq.Kept.setCell (T := T) wr (p := ⟨g, q, none⟩) .nilFunc hg2))
      have HB2 := Lib.hid (hB.setCell (p := ⟨g, q, none⟩) hg1 .nilFunc)
      clear own hTr hB hxl
      go_wp2_with fail
      go_roundw
      case rel => exact ⟨q + 1, _, by omega, by go_num, HST.out, HT2.out, HB2.out⟩
      case measure => simp [intOf]; omega
    · obtain rfl : q = Ls.length := by omega
      clear own
      go_wp2_with (first
        | (go_at_call 10; (with_reducible refine (HMR.out _ hB).mono ?_); rintro e w4 ⟨v4, rfl, hown4, hb4⟩; obtain ⟨pa, pcap, rfl, hpg⟩ := Sq.row_cases hown4; have hpc := row_cap hown4; have hT4 := hTr.below hb4; have hB4 := hB.trans (hb4.mono hB.size); have HV4 := Lib.hid (Vs.vers_of_own hown4))
        | (go_at_call 12; (with_reducible refine (HLI.out most _ ⟨hm0, hm1⟩ hT4).mono ?_); rintro e w5 ⟨u5, rfl, ho5, hb5⟩; have hv5 := Lib.hid (Vs.vers_of_own ho5); have HV5 := Lib.hid (HV4.out.grow hb5 hb5.size); have hT5 := hT4.below hb5; have hB5 := hB4.trans (hb5.mono hB4.size))
        | (go_at_call 13; (with_reducible refine (head_any pa pcap K (max most 0) _ _ HV5.out hpc (by omega) (by omega)).mono ?_); rintro e w6 ⟨rfl, rfl⟩)
        | (go_at_call 11; (with_reducible refine (HSM.out _ _ (cutL K most) _ hv5.out (by rw [cutL_max]; exact vers_cut most HV5.out) (by have := HCM.out; omega)).mono ?_); rintro e w6 ⟨rfl, hb6⟩; have hT6 := hT5.below hb6; have hB6 := hB5.trans (hb6.mono hB5.size); have HV6 := Lib.hid (HV5.out.grow hb6 hb6.size))
        | (go_at_call 12; (with_reducible refine (HLI.out 0 _ (by omega) hT6).mono ?_); rintro e w7 ⟨u7, rfl, ho7, hb7⟩; have hv7 := Vs.vers_of_own ho7; rw [HC0.out] at hv7; have HV7 := Lib.hid (HV6.out.grow hb7 hb7.size); have hB7 := hB6.trans (hb7.mono hB6.size))
        | (go_at_call 11; (with_reducible refine (HSM.out _ _ K _ hv7 HV7.out (by omega)).mono ?_); rintro e w8 ⟨rfl, hb8⟩; have hB8 := hB7.trans (hb8.mono hB7.size)))
      go_ret
      exact ⟨rfl, hB8⟩
end Mg
end Go.Proofs.Ytaohipgfnnclhaa

/-
  Roots that came in, opened.
-/
namespace Go.Proofs.Ytaohipgfnnclhaa
open Go.RowKit
set_option linter.unusedVariables false

namespace Gn
theorem mem_sum {α : Type} (f : α → Nat) : ∀ (l : List α) (j : Nat) (h : j < l.length), f l[j] ≤ (l.map f).sum
  | x :: r, 0, _ => by simp
  | x :: r, j + 1, h => by
    have := mem_sum f r j (by simpa using h)
    simp; omega
theorem len_sum {α : Type} (f : α → Nat) (h1 : ∀ x, 1 ≤ f x) : ∀ l : List α, l.length ≤ (l.map f).sum
  | [] => by simp
  | x :: r => by
    have := len_sum f h1 r
    have := h1 x
    simp; omega
/-- a row of numbers -/
theorem rd_ints {B : Nat} {W : World} {k : IntKind} {cs : List Value} {l : List Int} (h : RdL B W 1 (RdC B W (.int k)) cs l) :
    ∃ (a : Option Addr) (cap b off : Nat), cs = [.slice a l.length cap] ∧ (0 < l.length → a = some ⟨b, off, none⟩ ∧ b < B) ∧ ∀ j (h : j < l.length), W.cell? ⟨b, off + j, none⟩ = some (.int k l[j]) ∧ (Lit.int k l[j]).wf = true := by
  obtain ⟨a, cap, b, off, h1, _, _, h2, h3⟩ := h
  refine ⟨a, cap, b, off, h1, h2, fun j hj => ?_⟩
  obtain ⟨cs', g1, g2, rfl, g4⟩ := h3 j hj
  have := g2 0 (by omega)
  simp at this
  exact ⟨this, g4⟩
end Gn

namespace Fi
open Gn
abbrev fileT : Ty := .struct (.cons .str (.cons (.int .i64) (.cons (.slice (.int .i64)) .nil)))
abbrev rootT : Ty := .struct (.cons (.int .u64) (.cons (.slice fileT) .nil))
abbrev FD := List UInt8 × Int × List Int × Unit
def FD.file (x : FD) : File := ⟨x.1, x.2.1, x.2.2.1⟩
theorem i64_of {n : Int} (h : (Lit.int .i64 n).wf = true) : inI64 n := by
  simpa [Lit.wf, IntKind.min, IntKind.max, IntKind.signed, IntKind.bits, inI64] using h
theorem u64_of {n : Int} (h : (Lit.int .u64 n).wf = true) : 0 ≤ n ∧ n < 18446744073709551616 := by
  have : 0 ≤ n ∧ n ≤ 18446744073709551615 := by simpa [Lit.wf, IntKind.min, IntKind.max, IntKind.signed, IntKind.bits] using h
  omega
theorem rd_file {B : Nat} {W : World} {cs : List Value} {x : FD} (h : RdC B W fileT cs x) :
    ∃ bv, cs = [.string (Cd.bs x.1), .int .i64 x.2.1, bv] ∧ Ints B W bv x.2.2.1 ∧ inI64 x.2.1 ∧ ∀ b ∈ x.2.2.1, inI64 b := by
  obtain ⟨c1, c2, rfl, _, ⟨rfl, _⟩, c3, c4, rfl, _, ⟨rfl, hw⟩, c5, c6, rfl, _, h5, rfl⟩ := h
  obtain ⟨a, cap, b, off, rfl, g2, g3⟩ := rd_ints (l := x.2.2.1) h5
  refine ⟨_, rfl, ⟨a, cap, b, off, rfl, g2, fun j hj => (g3 j hj).1⟩, i64_of hw, fun y hy => ?_⟩
  obtain ⟨k, hk, rfl⟩ := List.getElem_of_mem hy
  exact i64_of (g3 k hk).2
/-- a root that came in -/
structure RootIn (W : World) (g : Nat) (fv : Value) (L : List (File × Value)) : Prop where
  gen : g < 18446744073709551616
  files : Files W.heap.size W fv L
  ok : ∀ x ∈ L, FileIn x.1
  len : L.length ≤ 1048576
theorem rd_files {B : Nat} {W : World} {cs : List Value} {l : List FD} (h : RdL B W 3 (RdC B W fileT) cs l) (hb : (Ty.slice fileT).bulk l ≤ 1048576) :
    ∃ fv, ∃ L : List (File × Value), cs = [fv] ∧ Files B W fv L ∧ (∀ x ∈ L, FileIn x.1) ∧ L.length ≤ 1048576 ∧ L.map (·.1) = l.map FD.file := by
  obtain ⟨a, cap, b, off, h1, _, _, h2, h3⟩ := h
  have hbs : ((l.map fun d => fileT.bulk d).sum) + 1 ≤ 1048576 := hb
  obtain ⟨L, hL, hq⟩ := list_of (len := l.length) (Q := fun j (F : File × Value) => ∃ h : j < l.length, F.1 = FD.file l[j] ∧ FileIn F.1 ∧
      W.cell? ⟨b, off + j * 3, none⟩ = some (.string (Cd.bs F.1.name)) ∧ W.cell? ⟨b, off + j * 3 + 1, none⟩ = some (.int .i64 F.1.size) ∧ W.cell? ⟨b, off + j * 3 + 2, none⟩ = some F.2 ∧ Ints B W F.2 F.1.blocks) (fun j hj => by
    obtain ⟨cs', g1, g2, g3⟩ := h3 j hj
    obtain ⟨bv, rfl, k1, k2, k3⟩ := rd_file g3
    have hm : fileT.bulk l[j] ≤ (l.map fun d => fileT.bulk d).sum := mem_sum (fun d => fileT.bulk d) l j hj
    have e : fileT.bulk l[j] = l[j].1.length + 1 + (1 + ((l[j].2.2.1.map fun _ => 1).sum + 1 + 0)) + 1 := rfl
    have hl := len_sum (fun _ : Int => 1) (fun _ => Nat.le_refl _) l[j].2.2.1
    rw [e] at hm
    refine ⟨(FD.file l[j], bv), hj, rfl, ⟨?_, k2, ?_, k3⟩, ?_, ?_, ?_, k1⟩
    · show l[j].1.length ≤ _; omega
    · show l[j].2.2.1.length ≤ _; omega
    · have := g2 0 (by omega); simp at this; exact this
    · have := g2 1 (by omega); simp at this; exact this
    · have := g2 2 (by omega); simp at this; exact this)
  have hll : l.length ≤ (l.map fun d => fileT.bulk d).sum := len_sum (fun d => fileT.bulk d) (fun d => by show 1 ≤ _ + 1; omega) l
  refine ⟨.slice a l.length cap, L, h1, ⟨a, cap, b, off, by rw [hL], fun h => h2 (by rw [hL] at h; exact h), fun j hj => ?_⟩, fun x hx => ?_, by omega, ?_⟩
  · obtain ⟨_, _, _, k⟩ := hq j hj; exact k
  · obtain ⟨j, hj, rfl⟩ := List.getElem_of_mem hx
    obtain ⟨_, _, k, _⟩ := hq j hj; exact k
  · apply List.ext_getElem
    · simp [hL]
    · intro j h1' h2'
      obtain ⟨_, k, _⟩ := hq j (by simpa using h1')
      simpa using k

end Fi
end Go.Proofs.Ytaohipgfnnclhaa
/-
  Chapter 7: what the program owes; the laws BloomAsks, BloomNever, BloomUnion, BloomBuilds over it.
-/
namespace Go.Proofs.Ytaohipgfnnclhaa
open Go.RowKit
set_option linter.unusedSimpArgs false
set_option linter.unusedVariables false
namespace Bm

theorem build_small (b : Int) (keys : List (List UInt8)) (hk : keys.length ≤ 1048576) : (build b keys).length ≤ 4194304 := by
  by_cases h : b < 1 ∨ keys = []
  · rw [show build b keys = [] from if_pos h]; simp
  · rw [build_len h]
    unfold bytesOf
    have hb : 0 ≤ min b 20 ∧ min b 20 ≤ 20 := by omega
    have q1 : min b 20 * (keys.length : Int) ≤ 20 * (keys.length : Int) := Int.mul_le_mul_of_nonneg_right hb.2 (by omega)
    omega

theorem andNot_sub (x y : List UInt8) (q : Nat) (hx : q < x.length) (hy : q < y.length) (h : Sub (x.getD q 0) (y.getD q 0)) : bits BinOp.andNot IntKind.u8 (((Cd.bs x)[q]'hx).toNat : Int) (((Cd.bs y)[q]'hy).toNat : Int) = 0 := by
  have e1 : x.getD q 0 = x[q] := by rw [List.getD_eq_getElem?_getD, List.getElem?_eq_getElem hx, Option.getD_some]
  have e2 : y.getD q 0 = y[q] := by rw [List.getD_eq_getElem?_getD, List.getElem?_eq_getElem hy, Option.getD_some]
  rw [e1, e2] at h
  show bits BinOp.andNot IntKind.u8 (x[q].toNat : Int) (y[q].toNat : Int) = 0
  generalize x[q] = c at *
  generalize y[q] = d at *
  have hc := c.toNat_lt
  have hd := d.toNat_lt
  have ho : c.toNat ||| d.toNat = d.toNat := by rw [← UInt8.toNat_or, h]
  rw [u8_andNot_nat _ _ (by omega) (by omega)]
  have : c.toNat &&& (255 - d.toNat) = 0 := by
    apply Nat.eq_of_testBit_eq
    intro i
    rw [Nat.testBit_and, show 255 - d.toNat = 2 ^ 8 - (d.toNat + 1) by omega, Nat.testBit_two_pow_sub_succ (by omega), Nat.zero_testBit]
    have hi : (c.toNat ||| d.toNat).testBit i = d.toNat.testBit i := by rw [ho]
    rw [Nat.testBit_or] at hi
    cases h1 : c.toNat.testBit i <;> cases h2 : d.toNat.testBit i <;> simp_all
  rw [this]; rfl
theorem Strs.take {B : Nat} {W : World} {a : Option Addr} {cap : Nat} {L : List (List UInt8)} (h : Strs B W (.slice a L.length cap) L) (n : Nat) (hn : n ≤ L.length) : Strs B W (.slice a n cap) (L.take n) := by
  obtain ⟨a', cap', b, off, h1, h2, h3⟩ := h
  injection h1 with e1 e2 e3
  subst e1 e3
  have hl : (L.take n).length = n := by simp; omega
  exact ⟨_, _, b, off, by rw [hl], fun h => h2 (by omega), fun j hj => by rw [List.getElem_take]; exact h3 j (by omega)⟩

end Bm
end Go.Proofs.Ytaohipgfnnclhaa
/-
  Chapter 7: the law BloomBuilds over what the program owes.
-/
namespace Go.Proofs.Ytaohipgfnnclhaa
open Go.RowKit
set_option linter.unusedSimpArgs false
set_option linter.unusedVariables false
namespace Bm
def sc (l : List (List UInt8)) : List Value := l.map fun d => .string (Cd.bs d)
theorem sc_len (l : List (List UInt8)) : (sc l).length = l.length := by simp [sc]
theorem info_str7 : (Try.prog.info? 9).map (fun i => (i.zero, i.size, i.bytes)) = some (some (.string ⟨#[]⟩), 1, 16) := by kernel_rfl
theorem made_str7 (n : Nat) : (madeCells (Value.string ⟨#[]⟩).cells (n * 1)).toList = List.replicate n (.string ⟨#[]⟩) := by
  rw [show (Value.string ⟨#[]⟩).cells = #[Value.string ⟨#[]⟩] from rfl, Nat.mul_one, toList_madeCells_one]
theorem splice_all7 (n : Nat) (l : List Value) (h : l.length = n) : splice (List.replicate n (.string ⟨#[]⟩)) 0 l = l := by
  unfold splice
  simp [h]
theorem row_whole7 {W : World} {base g n : Nat} {e : TypeId} {xs : List Value} (h : W.ownsRow base e 1 (.slice (some ⟨g, 0, none⟩) n n) n xs) : W.heap[g]? = some (.cells xs.toArray e (0, 0)) := by
  rcases h.2 with ⟨h1, _⟩ | ⟨g', cap', cur, h1, _, h3, _, _, h6, h7⟩
  · simp at h1
  · simp at h1
    obtain ⟨rfl, rfl⟩ := h1
    have : cur.toList = xs := by rw [← h7, List.take_of_length_le (by simp [h6])]
    rw [h3, ← this]
def bCells (l : List Bool) : List Value := l.map Value.bool
theorem bCells_len (l : List Bool) : (bCells l).length = l.length := by simp [bCells]
theorem strs_src {B : Nat} {W : World} {a : Option Addr} {cap : Nat} {L : List (List UInt8)} (h : Strs B W (.slice a L.length cap) L) (g : Nat) :
    0 < (sc L).length → (some (⟨g, 0, none⟩ : Addr)) = some ⟨g, 0, none⟩ ∧ ∃ ad, a = some ad ∧ ∀ j v, (sc L)[j]? = some v → W.cell? (ad.add j) = some v := by
  intro h0
  rw [sc_len] at h0
  obtain ⟨a', cap', b, off, hv, ha, hc⟩ := h
  simp only [Value.slice.injEq, true_and] at hv
  obtain ⟨rfl, rfl⟩ := hv
  refine ⟨rfl, ⟨b, off, none⟩, (ha h0).1, fun j v hj => ?_⟩
  have hj' : j < L.length := by have := (List.getElem?_eq_some_iff.1 hj).1; rwa [sc_len] at this
  have hp : (⟨b, off, none⟩ : Addr).add j = ⟨b, off + j, none⟩ := by unfold Addr.add; split <;> simp_all
  rw [hp, hc j hj']
  simpa [sc, hj'] using hj
theorem strs_own {W : World} {g : Nat} {L : List (List UInt8)} (h : W.heap[g]? = some (.cells (sc L).toArray 9 (0, 0))) : Strs W.heap.size W (.slice (some ⟨g, 0, none⟩) L.length L.length) L := by
  have hg : g < W.heap.size := by
    rcases Nat.lt_or_ge g W.heap.size with h' | h'
    · exact h'
    · rw [Array.getElem?_eq_none h'] at h; cases h
  exact ⟨_, _, g, 0, rfl, fun _ => ⟨rfl, hg⟩, fun j hj => by simp [World.cell?, h, sc, hj]⟩
theorem Strs.later {B : Nat} {W W' : World} {v : Value} {L : List (List UInt8)} (h : Strs B W v L) (hb : Below B W W') : Strs W'.heap.size W' v L := by
  obtain ⟨a, cap, b, off, h1, h2, h3⟩ := h.below hb (Nat.le_refl _)
  by_cases h0 : 0 < L.length
  · refine ⟨a, cap, b, off, h1, fun _ => ⟨(h2 h0).1, ?_⟩, h3⟩
    have hc := h3 0 h0
    rcases Nat.lt_or_ge b W'.heap.size with h' | h'
    · exact h'
    · simp [World.cell?, Array.getElem?_eq_none h'] at hc
  · exact ⟨a, cap, b, off, h1, fun h => absurd h h0, h3⟩
theorem Strs.cells {B : Nat} {W : World} {g o n cap : Nat} {L : List (List UInt8)} (h : Strs B W (.slice (some ⟨g, o, none⟩) n cap) L) (j : Nat) (hj : j < L.length) : g < B ∧ W.cell? ⟨g, o + j, none⟩ = some (.string (Cd.bs L[j])) := by
  obtain ⟨a', cap', q1, q2, h1, h2, h3⟩ := h
  injection h1 with e1 e2 e3
  obtain ⟨e4, e5⟩ := h2 (by omega)
  rw [← e1] at e4
  injection e4 with e4
  injection e4 with e6 e7
  subst e6 e7
  exact ⟨e5, h3 j hj⟩

end Bm
end Go.Proofs.Ytaohipgfnnclhaa
/-
  The document's Build of a table (tapestryref08.Build).
-/
namespace Go.Proofs.Ytaohipgfnnclhaa
open Go.RowKit
set_option linter.unusedSimpArgs false
set_option linter.unusedVariables false
namespace Tb
open Mt (Ver mayB lessB placeB VerIn verV)
open Vs (Vers At)

theorem bodyN_len {L : List Ver} (h : ∀ x ∈ L, x.val.length ≤ 16384) (ps : List (Nat × Nat)) (hp : ∀ p ∈ ps, p.2 ≤ 1048576) (hn : ps.length ≤ 1048576) : ∀ n, n ≤ ps.length → (bodyN L ps n).1.length ≤ 17511220020 * n ∧ (bodyN L ps n).2.length ≤ 10 + 260 * n
  | 0, _ => ⟨Nat.le_refl _, by have := Cd.putU_len10 ps.length (by omega); show (Cd.putU ps.length).length ≤ _; omega⟩
  | n + 1, hle => by
    obtain ⟨k1, k2⟩ := bodyN_len h ps hp hn n (by omega)
    rw [bodyN_succ L ps n (by omega)]
    have h1 := dataF_len h ps[n]
    have h2 := hp ps[n] (List.getElem_mem _)
    have h3 := spanB_len (bodyN L ps n).1.length L ps[n] (by omega) (by omega) (by omega)
    unfold bodyStep
    simp only [List.length_append]
    omega

theorem strs_row {W : World} {base : Nat} {v : Value} {L : List (List UInt8)} (h : W.ownsRow base 9 1 v L.length (sc8 L)) : Bm.Strs W.heap.size W v L := by
  obtain ⟨ao, cap, rfl, hg⟩ := Sq.row_cases h
  by_cases h0 : 0 < L.length
  · obtain ⟨g, rfl, _, h2⟩ := hg h0
    refine ⟨_, _, g, 0, rfl, fun _ => ⟨rfl, h2⟩, fun j hj => ?_⟩
    rw [Nat.zero_add]
    exact (h.cellAt j (by omega)).trans (by simp [sc8, hj])
  · exact ⟨_, _, 0, 0, rfl, fun h => absurd h h0, fun j hj => absurd (by omega) h0⟩
theorem keyL_mem {L : List Ver} {x : List UInt8} (h : x ∈ keyL L) : ∃ v ∈ L, x = v.key := by
  unfold keyL keyN at h
  obtain ⟨i, hi, rfl⟩ := List.mem_map.1 h
  have := List.mem_range.1 (List.mem_filter.1 hi).1
  exact ⟨L[i], List.getElem_mem this, by rw [getD_at this]⟩
theorem may_len {v : Ver} (h : mayB v = true) : VerIn v := by
  obtain ⟨h1, h2, h3, h4, h5, h6⟩ := may_seq h
  exact ⟨by omega, by omega, by omega, by omega⟩

end Tb
end Go.Proofs.Ytaohipgfnnclhaa
/-
  The builtin copy of elements of several cells, onto a row of one's own.
-/
namespace Go.Proofs.Ytaohipgfnnclhaa
open Go.RowKit
namespace Cw
variable {P : Program}
theorem run_copy_wide (w : World) (dT sT ty elem : TypeId) (g n dCap : Nat) (a : Addr) (sCap sz : Nat) (cur : Array Value) (t : TypeId) (cs : List Value)
    (hu : P.underlying dT = some (.slice elem)) (hs : (P.info? elem).map (·.size) = some sz)
    (hg : w.heap[g]? = some (.cells cur t (0, 0))) (hn : cs.length = n * sz)
    (hsrc : ∀ j v, cs[j]? = some v → w.cell? (a.add j) = some v) (hfit : cs.length ≤ cur.size) (h1 : ∀ v ∈ cs, v.oneCell' = true) :
    (Builtin.copy_ #[dT, sT] ty #[.slice (some ⟨g, 0, none⟩) n dCap, .slice (some a) n sCap]).run P w =
      .ok (goInt n) (w.setRow g (cs ++ cur.toList.drop cs.length).toArray) := by
  have hl := run_loadCells_list (P := P) w a cs hsrc
  have hst := run_storeCells_at P g 0 t cs 0 cur w hg (by simpa using hfit) h1
  cases hq : P.info? elem with
  | none => simp [hq] at hs
  | some i =>
    have hi : i.size = sz := by simpa [hq] using hs
    simp [Builtin.copy_, run_underlying hu, Builtin.lenOf, Builtin.firstCells, sizeOf, typeInfo, hq, hi, ← hn, hl, hst]
theorem run_copy_zero (w : World) (dT sT ty elem : TypeId) (d a : Option Addr) (dCap sCap : Nat) (sz : Nat) (hu : P.underlying dT = some (.slice elem)) (hs : (P.info? elem).map (·.size) = some sz) :
    (Builtin.copy_ #[dT, sT] ty #[.slice d 0 dCap, .slice a 0 sCap]).run P w = .ok (goInt 0) w := by
  cases hq : P.info? elem with
  | none => simp [hq] at hs
  | some i =>
    have hl : ∀ (x : Addr), (loadCells x 0).run P w = .ok #[] w := fun x => by simpa using run_loadCells_list (P := P) w x [] (by simp)
    cases d <;> cases a <;> simp [Builtin.copy_, run_underlying hu, Builtin.lenOf, Builtin.firstCells, sizeOf, typeInfo, hq, storeCells, hl]
/-- a whole list of n elements onto a row of as many -/
theorem wpList_copy_wide {w : World} {ops : Array Oper} {rest : List Oper} {o : Oper} {a : Act} {Q : Exit → Act → World → Prop} (hgd : o.guard = none) (d s : Operand) (dT sT : TypeId)
    (ho : o.op = .call { callee := .builtin .copy, args := #[d, s], argTypes := #[dT, sT] }) (elem : TypeId) (sz : Nat) (hu : P.underlying dT = some (.slice elem)) (hsz : (P.info? elem).map (·.size) = some sz)
    (sp : Option Addr) (n dCap sCap : Nat) (g : Nat) (hd : a.eval d = .slice (some ⟨g, 0, none⟩) n dCap) (hs : a.eval s = .slice sp n sCap)
    (cur : List Value) (t : TypeId) (hg : w.heap[g]? = some (.cells cur.toArray t (0, 0))) (cs : List Value) (hn : cs.length = n * sz) (hcur : cur.length = n * sz)
    (hpos : 0 < n → ∃ ad, sp = some ad ∧ ∀ j v, cs[j]? = some v → w.cell? (ad.add j) = some v) (h1 : ∀ v ∈ cs, v.oneCell' = true) (B : Nat) (w0 : World) (hb : Below B w0 w) (hBg : B ≤ g)
    (h : ∀ w', Hid (w'.heap[g]? = some (.cells cs.toArray t (0, 0))) → Below B w0 w' → wpList P ops Q rest (a.put o.dst (goInt n)) w') :
    wpList P ops Q (o :: rest) a w := by
  by_cases h0 : n = 0
  · subst h0
    rw [Nat.zero_mul] at hn hcur
    obtain rfl := List.eq_nil_of_length_eq_zero hn
    obtain rfl := List.eq_nil_of_length_eq_zero hcur
    have hrun := run_copy_zero (P := P) w dT sT o.type elem (some ⟨g, 0, none⟩) sp dCap sCap sz hu hsz
    refine wpList_plain hgd fun K hK => ?_
    unfold Oper.wp
    simp [execOp, ho, resolve, invoke, builtin, hd, hs, hrun, Result.andThen]
    exact hK _ _ (h w hg hb)
  · obtain ⟨ad, rfl, hsrc⟩ := hpos (by omega)
    have hrun := run_copy_wide (P := P) w dT sT o.type elem g n dCap ad sCap sz cur.toArray t cs hu hsz hg hn hsrc (by simp; omega) h1
    have hdrop : cur.drop cs.length = [] := List.drop_eq_nil_of_le (by omega)
    refine wpList_plain hgd fun K hK => ?_
    unfold Oper.wp
    simp [execOp, ho, resolve, invoke, builtin, hd, hs, hrun, Result.andThen, hdrop]
    exact hK _ _ (h _ (show _ = _ from setRow_heap w g _ _ t _ hg) (below_setRow hb hBg _))
end Cw
end Go.Proofs.Ytaohipgfnnclhaa

/-
  Chapter 8: what the program owes of tables, and the law TableBuilds over it.
-/
namespace Go.Proofs.Ytaohipgfnnclhaa
open Go.RowKit
set_option linter.unusedSimpArgs false
set_option linter.unusedVariables false
namespace Tb
open Mt (Ver mayB lessB placeB VerIn verV)
open Vs (Vers At VersIn vcs)

/-- versions that lie in a slice with room -/
structure VersK (W : World) (a : Option Addr) (cap fb fo : Nat) (L : List Ver) : Prop where
  fits : L.length ≤ cap
  most : cap ≤ 9223372036854775807
  at0 : 0 < L.length → a = some ⟨fb, fo, none⟩ ∧ fb < W.heap.size
  cells : ∀ j (h : j < L.length), At W fb (fo + j * 4) L[j]
  each : ∀ x ∈ L, VerIn x
  many : L.length ≤ 1048576
  sum : (L.map Vs.nv).sum ≤ 1048576
theorem VersK.grow {W W' : World} {a : Option Addr} {cap fb fo : Nat} {L : List Ver} (h : VersK W a cap fb fo L) (hb : Below W.heap.size W W') : VersK W' a cap fb fo L :=
  ⟨h.fits, h.most, fun h0 => ⟨(h.at0 h0).1, Nat.lt_of_lt_of_le (h.at0 h0).2 hb.size⟩, fun j hj => (h.cells j hj).below hb (h.at0 (by omega)).2, h.each, h.many, h.sum⟩
theorem VersK.vers {W : World} {a : Option Addr} {cap fb fo : Nat} {L : List Ver} (h : VersK W a cap fb fo L) : Vers W.heap.size W (.slice a L.length cap) L := ⟨a, cap, fb, fo, rfl, h.at0, h.cells⟩

theorem info_ver8 : (Try.prog.info? 57).map (fun i => (i.zero, i.size, i.bytes)) = some (some (.agg #[.string ⟨#[]⟩, .int .u64 0, .bool false, .string ⟨#[]⟩]), 4, 48) := by kernel_rfl
theorem row_cells8 {W : World} {B g n cap sz : Nat} {e : TypeId} {xs : List Value} (h : W.ownsRow B e sz (.slice (some ⟨g, 0, none⟩) n cap) n xs) : ∃ cur : List Value, W.heap[g]? = some (.cells cur.toArray e (0, 0)) ∧ cur.length = cap * sz := by
  rcases h.2 with ⟨h1, _⟩ | ⟨g', cap', cur, h1, h2, h3, h4, h5, h6, h7⟩
  · cases h1
  · injection h1 with e1 e2 e3
    injection e1 with e1
    injection e1 with e1 _ _
    subst e1; subst e3
    exact ⟨cur.toList, by simpa using h3, by simpa using h6⟩
theorem vcs_len8 (L : List Ver) : (vcs L).length = L.length * 4 := by
  induction L with
  | nil => rfl
  | cons x r ih => rw [show vcs (x :: r) = Vs.vC x ++ vcs r from rfl, List.length_append, ih]; simp [Vs.vC]; omega
theorem vcs_get8 (L : List Ver) (j : Nat) (hj : j < L.length) (k : Nat) (hk : k < 4) : (vcs L)[j * 4 + k]? = (Vs.vC L[j])[k]? := by
  have := Gn.flatten_get (sz := 4) (L.map Vs.vC) (fun i hi => by simp [Vs.vC]) j (by simpa using hj) k hk
  unfold vcs
  rw [this]
  simp
theorem vcs_one (L : List Ver) : ∀ v ∈ vcs L, v.oneCell' = true := by
  intro v hv
  unfold vcs at hv
  obtain ⟨r, hr, hv⟩ := List.mem_flatten.1 hv
  obtain ⟨p, _, rfl⟩ := List.mem_map.1 hr
  simp only [Vs.vC, List.mem_cons, List.not_mem_nil, or_false] at hv
  rcases hv with rfl | rfl | rfl | rfl <;> rfl
theorem vers_src {W : World} {a : Option Addr} {cap fb fo : Nat} {L : List Ver} (h : VersK W a cap fb fo L) : 0 < L.length → ∃ ad, a = some ad ∧ ∀ j v, (vcs L)[j]? = some v → W.cell? (ad.add j) = some v := by
  intro h0
  refine ⟨⟨fb, fo, none⟩, (h.at0 h0).1, fun j v hj => ?_⟩
  have hlt : j < L.length * 4 := by
    have := (List.getElem?_eq_some_iff.1 hj).1
    rwa [vcs_len8] at this
  have hq : j / 4 < L.length := by omega
  obtain ⟨k1, k2, k3, k4⟩ := h.cells (j / 4) hq
  have hadd : (⟨fb, fo, none⟩ : Addr).add j = ⟨fb, fo + j, none⟩ := by unfold Addr.add; split <;> simp_all
  rw [hadd]
  have hg := vcs_get8 L (j / 4) hq (j % 4) (Nat.mod_lt _ (by omega))
  rw [show j / 4 * 4 + j % 4 = j by omega, hj] at hg
  have hr : j % 4 = 0 ∨ j % 4 = 1 ∨ j % 4 = 2 ∨ j % 4 = 3 := by omega
  rcases hr with hr | hr | hr | hr
  · rw [hr] at hg; rw [show fo + j = fo + j / 4 * 4 by omega, k1]; exact hg.symm
  · rw [hr] at hg; rw [show fo + j = fo + j / 4 * 4 + 1 by omega, k2]; exact hg.symm
  · rw [hr] at hg; rw [show fo + j = fo + j / 4 * 4 + 2 by omega, k3]; exact hg.symm
  · rw [hr] at hg; rw [show fo + j = fo + j / 4 * 4 + 3 by omega, k4]; exact hg.symm
theorem versK_of_cells {W : World} {g : Nat} {t : TypeId} {fz : Nat × Nat} {L : List Ver} (h : W.heap[g]? = some (.cells (vcs L).toArray t fz)) (h1 : ∀ x ∈ L, VerIn x) (h2 : L.length ≤ 1048576) (h3 : (L.map Vs.nv).sum ≤ 1048576) : VersK W (some ⟨g, 0, none⟩) L.length g 0 L := by
  refine ⟨Nat.le_refl _, by omega, fun _ => ⟨rfl, (Array.getElem?_eq_some_iff.1 h).1⟩, fun j hj => ?_, h1, h2, h3⟩
  have key : ∀ k, W.cell? ⟨g, k, none⟩ = (vcs L)[k]? := fun k => by simp [World.cell?, h]
  rw [Nat.zero_add]
  exact ⟨(key _).trans (vcs_get8 L j hj 0 (by omega)), (key _).trans (vcs_get8 L j hj 1 (by omega)), (key _).trans (vcs_get8 L j hj 2 (by omega)), (key _).trans (vcs_get8 L j hj 3 (by omega))⟩

open Gn in
set_option maxRecDepth 100000 in
theorem open_versK {H : Type} {enc : TypeId × Value → H} {W : World} {B : Nat} {v : Value} {d : DataW H} {p : List MemPlace} {base : Nat} (hv : Value.okWide Try.prog W .any base 28 v)
    (h : DataW.Trod enc Try.prog W 0 (fun _ => true) true 28 v d p) (hlt : ∀ x ∈ p, x.block < W.heap.size) (hB : Rows.uptoBulk d ≤ B) (hB2 : B ≤ 1048576 := by omega) :
    ∃ (a : Option Addr) (cap fb fo : Nat) (L : List Ver), v = .slice a L.length cap ∧ VersK W a cap fb fo L := by
  obtain ⟨cs, l, rfl, hx, hb⟩ := open_val (.slice Vs.verT) (by kernel_rfl) hv h hB
  replace hb : ((show List Vs.VD from l).map Vs.vbulk).sum + 1 ≤ B := hb
  change List Vs.VD at l
  have hx2 : RdC W.heap.size W (.slice Vs.verT) cs l := hx
  obtain ⟨a, cap, b, off, h1, hc, hm, h2, h3⟩ := hx
  have hs : ∀ x ∈ l, 0 ≤ (Vs.toV x).seq ∧ (Vs.toV x).seq < 18446744073709551616 := fun x hx => by
    obtain ⟨j, hj, rfl⟩ := List.getElem_of_mem hx
    obtain ⟨cs', g1, g2, g3⟩ := h3 j hj
    exact (Vs.rd_ver g3).2
  obtain ⟨k1, k2, k3⟩ := Vs.vers_in hb hB2 hs
  subst h1
  refine ⟨a, cap, b, off, l.map Vs.toV, by rw [List.length_map]; rfl, ⟨by rw [List.length_map]; exact hc, hm, fun h => h2 (by rwa [List.length_map] at h), fun j hj => ?_, k1, k2, k3⟩⟩
  rw [List.length_map] at hj
  obtain ⟨cs', g1, g2, g3⟩ := h3 j hj
  obtain ⟨rfl, _⟩ := Vs.rd_ver g3
  rw [List.getElem_map]
  exact ⟨g2 0 (by decide), g2 1 (by decide), g2 2 (by decide), g2 3 (by decide)⟩
end Tb
end Go.Proofs.Ytaohipgfnnclhaa

/-
  Chapter 9's inputs that came in, opened: rows of rows of versions, floors, the structs Kept and Seen.
-/
namespace Go.Proofs.Ytaohipgfnnclhaa
open Go.RowKit
set_option linter.unusedSimpArgs false
set_option linter.unusedVariables false
namespace Mg
open Gn
open Mt (Ver VerIn verV)
open Vs (Vers VersIn verT VD toV vbulk At)
theorem rd_us {B : Nat} {W : World} {cs : List Value} {l : List Int} (h : RdC B W (.slice (.int .u64)) cs l) : ∃ v, cs = [v] ∧ Us B W v l ∧ ∀ x ∈ l, 0 ≤ x ∧ x ≤ 18446744073709551615 := by
  obtain ⟨a, cap, b, off, h1, h2, h3⟩ := rd_ints (l := l) h
  refine ⟨_, h1, ⟨a, cap, b, off, rfl, h2, fun j hj => (h3 j hj).1⟩, fun x hx => ?_⟩
  obtain ⟨j, hj, rfl⟩ := List.getElem_of_mem hx
  have := Fi.u64_of (h3 j hj).2
  omega
theorem rd_row {W : World} {cs : List Value} {X : List VD} (h : RdC W.heap.size W (.slice verT) cs X) : ∃ ra rcap rb ro, cs = [.slice ra (X.map toV).length rcap] ∧ (0 < (X.map toV).length → ra = some ⟨rb, ro, none⟩ ∧ rb < W.heap.size) ∧ (∀ i (h : i < (X.map toV).length), At W rb (ro + i * 4) (X.map toV)[i]) ∧ ∀ x ∈ X, 0 ≤ (toV x).seq ∧ (toV x).seq < 18446744073709551616 := by
  obtain ⟨v, rfl, ⟨a, cap, b, off, rfl, h1, h2⟩, h3⟩ := Vs.vers_of_rd h
  exact ⟨a, cap, b, off, rfl, h1, h2, h3⟩
theorem left_all (Ls : List (List Ver)) : left Ls (zeros Ls) = (Ls.map (·.length)).sum := by
  unfold left
  congr 1
  apply List.ext_getElem
  · simp
  · intro i h1 h2
    have hi : i < Ls.length := by simpa using h2
    simp [zeros, gL hi, List.getD_eq_getElem?_getD, hi]
/-- rows of versions that came in -/
structure RowsIn (W : World) (v : Value) (Ls : List (List Ver)) : Prop where
  vv : VV W v Ls
  each : ∀ L ∈ Ls, ∀ x ∈ L, VerIn x
  lens : ∀ L ∈ Ls, L.length ≤ 1048576
  many : Ls.length ≤ 1048576
  all : left Ls (zeros Ls) ≤ 1048576
def vvbulk (X : List (List VD)) : Nat := (X.map fun r => (r.map vbulk).sum + 1).sum + 1
theorem vv_of_rd {W : World} {cs : List Value} {X : List (List VD)} (h : RdC W.heap.size W (.slice (.slice verT)) cs X) (hb : vvbulk X ≤ 1048576) : ∃ v, cs = [v] ∧ RowsIn W v (X.map fun r => r.map toV) := by
  obtain ⟨a, cap, b, off, h1, _, _, h2, h3⟩ := h
  have key : ∀ j (h : j < X.length), ∃ ra rcap rb ro, W.cell? ⟨b, off + j, none⟩ = some (.slice ra (X[j].map toV).length rcap) ∧ (0 < (X[j].map toV).length → ra = some ⟨rb, ro, none⟩ ∧ rb < W.heap.size) ∧ (∀ i (h : i < (X[j].map toV).length), At W rb (ro + i * 4) (X[j].map toV)[i]) ∧ ∀ x ∈ X[j], 0 ≤ (toV x).seq ∧ (toV x).seq < 18446744073709551616 := fun j hj => by
    obtain ⟨cs', g1, g2, g3⟩ := h3 j hj
    obtain ⟨ra, rcap, rb, ro, rfl, k1, k2, k3⟩ := rd_row g3
    have := g2 0 (by decide)
    refine ⟨ra, rcap, rb, ro, ?_, k1, k2, k3⟩
    simp only [Ty.size, Nat.mul_one, Nat.add_zero, List.getElem?_cons_zero] at this
    exact this
  have hmem : ∀ r ∈ X, (r.map vbulk).sum + 1 ≤ 1048576 := fun r hr => by
    obtain ⟨j, hj, rfl⟩ := List.getElem_of_mem hr
    have := mem_sum (fun r : List VD => (r.map vbulk).sum + 1) X j hj
    unfold vvbulk at hb
    omega
  have hlen : ∀ r : List VD, r.length ≤ (r.map vbulk).sum := fun r => len_sum vbulk (fun x => by unfold vbulk; omega) r
  have hin : ∀ r ∈ X, (∀ x ∈ r.map toV, VerIn x) ∧ (r.map toV).length ≤ 1048576 := fun r hr => by
    obtain ⟨j, hj, rfl⟩ := List.getElem_of_mem hr
    obtain ⟨_, _, _, _, _, _, _, k⟩ := key j hj
    obtain ⟨q1, q2, _⟩ := Vs.vers_in (X := X[j]) (b := 1048576) (hmem _ hr) (Nat.le_refl _) k
    exact ⟨q1, q2⟩
  have hn : X.length ≤ 1048576 := by
    have := len_sum (fun r : List VD => (r.map vbulk).sum + 1) (fun r => by omega) X
    unfold vvbulk at hb
    omega
  have hall : left (X.map fun r => r.map toV) (zeros (X.map fun r => r.map toV)) ≤ 1048576 := by
    have e := left_all (X.map fun r => r.map toV)
    have e2 : ∀ Y : List (List VD), ((Y.map fun r => r.map toV).map (·.length)).sum ≤ (Y.map fun r => (r.map vbulk).sum + 1).sum := by
      intro Y
      induction Y with
      | nil => simp
      | cons r Y ih =>
        have := hlen r
        simp only [List.map_cons, List.sum_cons, List.length_map] at ih ⊢
        omega
    have := e2 X
    unfold vvbulk at hb
    omega
  refine ⟨_, h1, ⟨⟨a, cap, b, off, by rw [List.length_map]; rfl, fun h => h2 (by rwa [List.length_map] at h), fun j hj => ?_⟩, fun L hL => ?_, fun L hL => ?_, by rw [List.length_map]; exact hn, hall⟩⟩
  · rw [List.length_map] at hj
    obtain ⟨ra, rcap, rb, ro, k0, k1, k2, _⟩ := key j hj
    rw [List.getElem_map]
    exact ⟨ra, rcap, rb, ro, k0, k1, k2⟩
  · obtain ⟨r, hr, rfl⟩ := List.mem_map.1 hL
    exact (hin r hr).1
  · obtain ⟨r, hr, rfl⟩ := List.mem_map.1 hL
    exact (hin r hr).2
variable {H : Type} {enc : TypeId × Value → H} {W : World}

set_option maxRecDepth 100000 in
theorem open_vv {B : Nat} {v : Value} {d : DataW H} {p : List MemPlace} {base : Nat} (hv : Value.okWide Try.prog W .any base 22 v)
    (h : DataW.Trod enc Try.prog W 0 (fun _ => true) true 22 v d p) (hlt : ∀ x ∈ p, x.block < W.heap.size) (hB : Rows.uptoBulk d ≤ B) (hB2 : B ≤ 1048576 := by omega) :
    ∃ (a : Option Addr) (n cap : Nat) (Ls : List (List Ver)), v = .slice a n cap ∧ RowsIn W (.slice a n cap) Ls := by
  obtain ⟨cs, l, rfl, hx, hb⟩ := open_val (.slice (.slice verT)) (by kernel_rfl) hv h hB
  have hb2 : vvbulk l ≤ B := hb
  obtain ⟨u, hu, hV⟩ := vv_of_rd (X := l) hx (by omega)
  obtain ⟨a, cap, b, off, e1, _⟩ := hV.vv
  subst e1
  cases hu
  exact ⟨a, _, cap, _, rfl, hV⟩

set_option maxRecDepth 100000 in
theorem open_us {B : Nat} {v : Value} {d : DataW H} {p : List MemPlace} {base : Nat} (hv : Value.okWide Try.prog W .any base 34 v)
    (h : DataW.Trod enc Try.prog W 0 (fun _ => true) true 34 v d p) (hlt : ∀ x ∈ p, x.block < W.heap.size) (hB : Rows.uptoBulk d ≤ B) (hB2 : B ≤ 1048576 := by omega) :
    ∃ (a : Option Addr) (n cap : Nat) (l : List Int), v = .slice a n cap ∧ (Us W.heap.size W (.slice a n cap) l ∧ (∀ x ∈ l, 0 ≤ x ∧ x ≤ 18446744073709551615) ∧ l.length ≤ 1048576) := by
  obtain ⟨cs, l, rfl, hx, hb⟩ := open_val (.slice (.int .u64)) (by kernel_rfl) hv h hB
  change List Int at l
  replace hb : (l.map fun _ => 1).sum + 1 ≤ B := hb
  obtain ⟨u, hu, hV, h2⟩ := rd_us (l := l) hx
  have hl := len_sum (fun _ : Int => 1) (fun _ => Nat.le_refl _) l
  obtain ⟨a, cap, b, off, e1, h3⟩ := hV
  subst e1
  cases hu
  exact ⟨a, _, cap, _, rfl, ⟨a, cap, b, off, rfl, h3⟩, h2, by omega⟩

abbrev keptT : Gn.Ty := .struct (.cons (.slice verT) (.cons (.slice (.int .u64)) (.cons .bool (.cons (.int .i64) .nil))))
abbrev seenT : Gn.Ty := .struct (.cons (.slice verT) (.cons (.int .u64) (.cons .str (.cons .str (.cons (.int .i64) .nil)))))

set_option maxRecDepth 100000 in
theorem open_kept {B : Nat} {v : Value} {d : DataW H} {p : List MemPlace} {base : Nat} (hv : Value.okWide Try.prog W .any base 36 v)
    (h : DataW.Trod enc Try.prog W 0 (fun _ => true) true 36 v d p) (hlt : ∀ x ∈ p, x.block < W.heap.size) (hB : Rows.uptoBulk d ≤ B) (hB2 : B ≤ 1048576 := by omega) :
    ∃ (lv fv : Value) (L : List Ver) (fl : List Int) (bt : Bool) (most : Int), v = .agg #[lv, fv, .bool bt, .int .i64 most] ∧ VersIn W lv L ∧ Us W.heap.size W fv fl ∧ (∀ x ∈ fl, 0 ≤ x ∧ x ≤ 18446744073709551615) ∧ fl.length ≤ 1048576 ∧ -9223372036854775808 ≤ most ∧ most ≤ 9223372036854775807 := by
  obtain ⟨cs, l, rfl, hx, hb⟩ := open_val keptT (by kernel_rfl) hv h hB
  change List VD × List Int × Bool × Int × Unit at l
  replace hb : (l.1.map vbulk).sum + 1 + ((l.2.1.map fun _ => 1).sum + 1 + (1 + (1 + 0))) + 1 ≤ B := hb
  obtain ⟨c1, c2, rfl, _, h1, c3, c4, rfl, _, h2, c5, c6, rfl, _, rfl, c7, c8, rfl, _, ⟨rfl, hw⟩, rfl⟩ := hx
  obtain ⟨u, rfl, hV, hs⟩ := Vs.vers_of_rd (X := l.1) h1
  obtain ⟨u2, rfl, hU, h3⟩ := rd_us (l := l.2.1) h2
  obtain ⟨k1, k2, k3⟩ := Vs.vers_in (X := l.1) (b := 1048576) (by omega) (Nat.le_refl _) hs
  have hl := len_sum (fun _ : Int => 1) (fun _ => Nat.le_refl _) l.2.1
  have hi := Fi.i64_of hw
  exact ⟨u, u2, _, _, _, _, rfl, ⟨hV, k1, k2, k3⟩, hU, h3, by omega, hi.1, hi.2⟩

set_option maxRecDepth 100000 in
theorem open_seen {B : Nat} {v : Value} {d : DataW H} {p : List MemPlace} {base : Nat} (hv : Value.okWide Try.prog W .any base 43 v)
    (h : DataW.Trod enc Try.prog W 0 (fun _ => true) true 43 v d p) (hlt : ∀ x ∈ p, x.block < W.heap.size) (hB : Rows.uptoBulk d ≤ B) (hB2 : B ≤ 1048576 := by omega) :
    ∃ (lv : Value) (L : List Ver) (seq : Int) (lo hi : List UInt8) (most : Int), v = .agg #[lv, .int .u64 seq, .string (Cd.bs lo), .string (Cd.bs hi), .int .i64 most] ∧ VersIn W lv L ∧ 0 ≤ seq ∧ seq ≤ 18446744073709551615 ∧ lo.length ≤ 1048576 ∧ hi.length ≤ 1048576 ∧ -9223372036854775808 ≤ most ∧ most ≤ 9223372036854775807 := by
  obtain ⟨cs, l, rfl, hx, hb⟩ := open_val seenT (by kernel_rfl) hv h hB
  change List VD × Int × List UInt8 × List UInt8 × Int × Unit at l
  replace hb : (l.1.map vbulk).sum + 1 + (1 + (l.2.2.1.length + 1 + (l.2.2.2.1.length + 1 + (1 + 0)))) + 1 ≤ B := hb
  obtain ⟨c1, c2, rfl, _, h1, c3, c4, rfl, _, ⟨rfl, hw1⟩, c5, c6, rfl, _, ⟨rfl, _⟩, c7, c8, rfl, _, ⟨rfl, _⟩, c9, c10, rfl, _, ⟨rfl, hw2⟩, rfl⟩ := hx
  obtain ⟨u, rfl, hV, hs⟩ := Vs.vers_of_rd (X := l.1) h1
  obtain ⟨k1, k2, k3⟩ := Vs.vers_in (X := l.1) (b := 1048576) (by omega) (Nat.le_refl _) hs
  have hi := Fi.i64_of hw2
  have hu := Fi.u64_of hw1
  exact ⟨u, _, _, _, _, _, rfl, ⟨hV, k1, k2, k3⟩, hu.1, by omega, by omega, by omega, hi.1, hi.2⟩
end Mg
end Go.Proofs.Ytaohipgfnnclhaa

/-
  Chapter 9: the laws over the landed merge: MergePairs.
-/
namespace Go.Proofs.Ytaohipgfnnclhaa
open Go.RowKit
set_option linter.unusedVariables false
namespace Mg
open Mt (Ver VerIn)
open Vs (VersIn Vers)
open Tb (VersK)
theorem mergePairs_law (lv : Value) (L : List Ver) (seq : Int) (lo hi : List UInt8) (most : Int) (w : World) (hV : VersIn w lv L) (s0 : 0 ≤ seq) (s1 : seq ≤ 18446744073709551615) (hlo : lo.length ≤ 1048576) (hhi : hi.length ≤ 1048576) (m0 : -9223372036854775808 ≤ most) (m1 : most ≤ 9223372036854775807) :
    Calls Try.prog 5 #[.agg #[lv, .int .u64 seq, .string (Cd.bs lo), .string (Cd.bs hi), .int .i64 most]] w fun e w' => e = .returned (.bool true) ∧ Below w.heap.size w w' :=
  mergePairs_walk pairsOk lv L seq lo hi most w hV s0 s1 hlo hhi m0 m1
end Mg
end Go.Proofs.Ytaohipgfnnclhaa

/-
  A call that could start goroutines and starts none: at its return nobody else is there, so whoever is there is only leaving.
-/
namespace Go.Proofs.Ytaohipgfnnclhaa

namespace Lv
theorem alone_leaves {P : Program} {last : Machine} {w : World} {t : Trace} (h : aloneAtReturn P last w t) : leavingAtReturn P last w t := by
  obtain ⟨⟨h1, h2⟩, h3, h4⟩ := h
  refine ⟨h3, ⟨fun g hg => ⟨0, ?_⟩, h2⟩, h4⟩
  unfold Machine.othersDone at h1
  have := List.all_eq_true.1 h1 g hg
  simpa [Goroutine.LeavesIn] using this
theorem open_leaves {a : Assume} {st : Option Stop.Interp} {C : Checked} {os : Os} {f : FuncId} {r : Reach} {okInput : Program → World → Reach → Nat → FuncId → Input → Prop} {Pre : World → Array Value → Prop} {Post : World → Array Value → Value → World → Prop} {always : Machine → Prop}
    (h : ReturnsInOpen a st C os f r okInput Pre Post (aloneAtReturn C.prog) always) : ReturnsInOpen a st C os f r okInput Pre Post (leavingAtReturn C.prog) always := by
  obtain ⟨h1, h2, h3, h4, h5⟩ := h
  refine ⟨h1, h2, h3, h4, fun w tape i hf => ?_⟩
  obtain ⟨n, v, w', k1, k2, k3, k4, ⟨j, last, e1, e2, e3⟩, k5⟩ := h5 w tape i hf
  exact ⟨n, v, w', k1, k2, k3, k4, ⟨j, last, e1, e2, alone_leaves e3⟩, k5⟩
/-- THE ROW THAT SAYS 'leaving', from the one that says that nobody else is there. -/
theorem leaving {p : Pinned} {s : OpenSpec} (c : OpenClaim) (hst : c.start = .entering) (hss : c.stops = []) (hl : c.leaving = true) (hwf : c.wf s = true) (h : OpenClaim.holds p s { c with leaving := false }) : c.holds p s := by
  obtain ⟨_, h2, h3, h4, h5, h6, h7, h8, f, fn, k1, k2, k3, k4, k5, k6, k7, k8, k9, k10, k11, k12, k13, k14, k15, k16, k17, k18, k19, k20, k21, L, hL, hform⟩ := h
  refine ⟨hwf, h2, h3, h4, h5, h6, h7, h8, f, fn, k1, k2, k3, k4, k5, k6, k7, k8, k9, k10, k11, k12, k13, k14, k15, k16, k17, k18, k19, k20, k21, L, hL, fun os hw hq H enc inj => ?_⟩
  have hf := hform os hw hq H enc inj
  unfold OpenClaim.form at hf ⊢
  simp only [hst, hss] at hf ⊢
  intro F
  have hg := hf F
  have e1 : c.atReturn p.checked.prog = leavingAtReturn p.checked.prog := by unfold OpenClaim.atReturn; rw [hl]
  rw [e1]
  exact open_leaves hg
end Lv
end Go.Proofs.Ytaohipgfnnclhaa

/-
  Plain mathematics of Cut told version by version: the lists that have been told, and the one at hand, behind the first k versions.
-/
namespace Go.Proofs.Ytaohipgfnnclhaa
open Go.RowKit
set_option linter.unusedVariables false
set_option linter.unusedSimpArgs false
namespace Mg
open Mt (Ver VerIn)
open Tb (ver0 getD_at)
/-- the list at hand -/
def lst (b : Int) (L : List Ver) (k : Nat) : List Ver := (L.drop (ctN b L (k - 1)).2).take (k - (ctN b L (k - 1)).2)
/-- the lists that have been told -/
def tld (b : Int) (L : List Ver) (k : Nat) : List (List Ver) := (ctN b L (k - 1)).1.map (Tb.part L)
theorem lst_zero (b : Int) (L : List Ver) : lst b L 0 = [] := by simp [lst]
theorem tld_zero (b : Int) (L : List Ver) : tld b L 0 = [] := by simp [tld, ctN]
theorem take_more {L : List Ver} {f k : Nat} (hf : f ≤ k) (hk : k < L.length) : (L.drop f).take (k + 1 - f) = (L.drop f).take (k - f) ++ [L.getD k ver0] := by
  rw [show k + 1 - f = (k - f) + 1 by omega, List.take_succ_eq_append_getElem (by rw [List.length_drop]; omega), List.getElem_drop, getD_at hk]
  congr 2
  congr 1
  omega
theorem lst_len (b : Int) (L : List Ver) (k : Nat) (hk : k ≤ L.length) : (lst b L k).length = k - (ctN b L (k - 1)).2 := by
  unfold lst
  rw [List.length_take, List.length_drop]
  omega
theorem lst_ne {b : Int} {L : List Ver} {k : Nat} (h0 : 0 < k) (hk : k ≤ L.length) : lst b L k ≠ [] := by
  intro h
  have h1 := lst_len b L k hk
  rw [h] at h1
  have h2 := (ctN_in b L (k - 1)).1
  simp at h1
  omega
theorem lst_in {b : Int} {L : List Ver} {k : Nat} : ∀ x ∈ lst b L k, x ∈ L := fun x hx => List.mem_of_mem_drop (List.mem_of_mem_take hx)
theorem part_eq (b : Int) (L : List Ver) (k : Nat) : Tb.part L ((ctN b L (k - 1)).2, k - (ctN b L (k - 1)).2) = lst b L k := rfl
/-- the version of place k comes: the list at hand is told first -/
theorem cut_told {b : Int} {L : List Ver} {k : Nat} (hk : k < L.length) (hn : newG L k = true) (hl : lst b L k ≠ []) (hb : b ≤ (bytes (lst b L k) : Int)) :
    tld b L (k + 1) = tld b L k ++ [lst b L k] ∧ lst b L (k + 1) = [L.getD k ver0] ∧ tld b L k ++ [lst b L k] <+: cutLs L b := by
  cases k with
  | zero => exact absurd (lst_zero b L) hl
  | succ n =>
    have hm := ctN_mid (b := b) hk
    have hc : newG L (n + 1) = true ∧ b ≤ (bytes ((L.drop (ctN b L n).2).take (n + 1 - (ctN b L n).2)) : Int) := ⟨hn, hb⟩
    rw [if_pos hc] at hm
    have ht : tld b L (n + 1 + 1) = tld b L (n + 1) ++ [lst b L (n + 1)] := by
      unfold tld
      rw [Nat.add_sub_cancel, Nat.add_sub_cancel, hm]
      simp only [List.map_append, List.map_cons, List.map_nil]
      rw [← part_eq b L (n + 1), Nat.add_sub_cancel]
    refine ⟨ht, ?_, ?_⟩
    · unfold lst
      rw [Nat.add_sub_cancel, hm]
      simp only
      rw [take_more (Nat.le_refl _) hk, Nat.sub_self, List.take_zero, List.nil_append]
    · rw [← ht]
      have := cutLs_grows b L (n + 1) (by omega)
      unfold tld
      rwa [Nat.add_sub_cancel]
/-- the version of place k comes: it goes to the list at hand -/
theorem cut_more {b : Int} {L : List Ver} {k : Nat} (hk : k < L.length) (h : newG L k = false ∨ lst b L k = [] ∨ (bytes (lst b L k) : Int) < b) :
    tld b L (k + 1) = tld b L k ∧ lst b L (k + 1) = lst b L k ++ [L.getD k ver0] := by
  cases k with
  | zero =>
    refine ⟨rfl, ?_⟩
    rw [lst_zero, List.nil_append]
    show (L.drop 0).take (1 - 0) = _
    rw [take_more (Nat.le_refl 0) hk]
    simp
  | succ n =>
    have hm := ctN_mid (b := b) hk
    have hc : ¬ (newG L (n + 1) = true ∧ b ≤ (bytes ((L.drop (ctN b L n).2).take (n + 1 - (ctN b L n).2)) : Int)) := by
      rintro ⟨h1, h2⟩
      rcases h with h | h | h
      · rw [h] at h1; cases h1
      · exact lst_ne (by omega) (by omega) h
      · have : bytes (lst b L (n + 1)) = bytes ((L.drop (ctN b L n).2).take (n + 1 - (ctN b L n).2)) := rfl
        omega
    rw [if_neg hc] at hm
    have hf := (ctN_in b L n).1
    refine ⟨?_, ?_⟩
    · unfold tld; rw [Nat.add_sub_cancel, Nat.add_sub_cancel, hm]
    · unfold lst
      rw [Nat.add_sub_cancel, Nat.add_sub_cancel, hm]
      exact take_more (by omega) hk
/-- the end has come -/
theorem cut_last {b : Int} {L : List Ver} : cutLs L b = tld b L L.length ++ (if L = [] then [] else [lst b L L.length]) := by
  cases hl : L.length with
  | zero =>
    obtain rfl := List.eq_nil_of_length_eq_zero hl
    rfl
  | succ n =>
    have hne : L ≠ [] := by rintro rfl; simp at hl
    rw [if_neg hne]
    have he := ctN_end (b := b) hl.symm
    rw [hl] at he
    unfold cutLs cut
    rw [hl, he]
    unfold tld lst
    rw [Nat.add_sub_cancel]
    simp only [List.map_append, List.map_cons, List.map_nil]
    rfl
theorem tld_pre {b : Int} {L : List Ver} {k : Nat} (hk : k ≤ L.length) : tld b L k <+: cutLs L b := by
  unfold tld
  exact cutLs_grows b L (k - 1) (by omega)
theorem bytes_le : ∀ (l : List Ver), (∀ x ∈ l, VerIn x) → bytes l ≤ l.length * 2097168
  | [], _ => by simp [bytes]
  | x :: l, h => by
    have ih := bytes_le l (fun y hy => h y (List.mem_cons_of_mem _ hy))
    have hx := h x (List.mem_cons_self ..)
    unfold VerIn at hx
    unfold bytes at *
    simp only [List.map_cons, List.sum_cons, List.length_cons]
    omega
end Mg
end Go.Proofs.Ytaohipgfnnclhaa

/-
  The law MergeCuts: what lies where while the lists are told.
-/
namespace Go.Proofs.Ytaohipgfnnclhaa
open Go.RowKit Go.Shelf
set_option linter.unusedSimpArgs false
set_option linter.unusedVariables false
namespace Mg
open Mt (Ver VerIn verV)
open Vs (Vers At vcs)
open Tb (ver0)
/-- three boxes, and the versions that were told -/
structure CS (R T : Sq.Blocks) (b5 b6 b7 : Nat) (wv : Value) (all : List Ver) (n : Nat) (u : Value) (X : World) : Prop where
  x5 : Boxed X b5 22 wv
  x6 : Boxed X b6 28 u
  x7 : Boxed X b7 3 (.int .i64 (n : Int))
  row : X.ownsRow 0 57 4 u all.length (vcs all)
  own : ∀ g, u.ownBlock = some g → ¬ R g ∧ ¬ T g
  r5 : ¬ R b5 ∧ ¬ T b5
  r6 : ¬ R b6 ∧ ¬ T b6
  r7 : ¬ R b7 ∧ ¬ T b7
  ne : b5 ≠ b6 ∧ b5 ≠ b7 ∧ b6 ≠ b7
variable {R T : Sq.Blocks} {b5 b6 b7 n : Nat} {wv u : Value} {all : List Ver} {X : World}
theorem CS.kept {K : Sq.Blocks} {X' : World} (h : CS R T b5 b6 b7 wv all n u X) (hk : Sq.Kept K X X') (h5 : K b5) (h6 : K b6) (h7 : K b7) (ho : ∀ g, u.ownBlock = some g → K g) : CS R T b5 b6 b7 wv all n u X' :=
  ⟨hk.boxed h5 h.x5, hk.boxed h6 h.x6, hk.boxed h7 h.x7, Sq.row_kept h.row hk ho, h.own, h.r5, h.r6, h.r7, h.ne⟩
theorem CS.below {X' : World} (h : CS R T b5 b6 b7 wv all n u X) (hb : Below X.heap.size X X') : CS R T b5 b6 b7 wv all n u X' := h.kept (K := fun _ => True) (Sq.Kept.of_below hb) trivial trivial trivial (fun _ _ => trivial)
theorem box_not_row {b : Nat} {t : TypeId} {v : Value} (h : Boxed X b t v) (ht : t ≠ 57) (hr : X.ownsRow 0 57 4 u all.length (vcs all)) : ∀ r, u.ownBlock = some r → r ≠ b := fun r hr' e => by
  subst e
  rcases hr.2 with ⟨hv, _⟩ | ⟨g, cap, cur, hv, _, hg, _⟩
  · rw [hv] at hr'; simp [Value.ownBlock] at hr'
  · rw [hv] at hr'
    simp only [Value.ownBlock, Option.some.injEq] at hr'
    subst hr'
    have h2 : X.heap[g]? = some (.cells #[v] t (0, 0)) := h
    rw [hg] at h2
    simp only [Option.some.injEq, Obj.cells.injEq] at h2
    exact ht h2.2.1.symm
/-- a version more is told -/
theorem CS.push (h : CS R T b5 b6 b7 wv all n u X) (hR : ∀ k, R k → k < X.heap.size) (hT : ∀ k, T k → k < X.heap.size) {x : Ver} {X1 w2 : World} {g cap2 : Nat} (hX1 : Sq.Kept (fun _ => True) X X1)
    (hown : w2.ownsRow 0 57 4 (.slice (some ⟨g, 0, none⟩) (all.length + 1) cap2) (all.length + 1) (vcs all ++ [.string (Cd.bs x.key), .int .u64 x.seq, .bool x.del, .string (Cd.bs x.val)]))
    (hgrow : X1.grownBy w2 u.ownBlock) (hat : u.ownBlock = some g ∨ g = X1.heap.size) :
    CS R T b5 b6 b7 wv (all ++ [x]) n (.slice (some ⟨g, 0, none⟩) (all.length + 1) cap2) (w2.setCell ⟨b6, 0, none⟩ (.slice (some ⟨g, 0, none⟩) (all.length + 1) cap2)) ∧
    Sq.Kept (fun k => k ≠ b6 ∧ ∀ r, u.ownBlock = some r → k ≠ r) X (w2.setCell ⟨b6, 0, none⟩ (.slice (some ⟨g, 0, none⟩) (all.length + 1) cap2)) := by
  have k2 : Sq.Kept (fun k => ∀ r, u.ownBlock = some r → k ≠ r) X w2 := (hX1.less fun _ _ _ => trivial).trans (Sq.Kept.grown hgrow (fun r hr h => h r hr rfl))
  have n5 := box_not_row h.x5 (by decide) h.row
  have n6 := box_not_row h.x6 (by decide) h.row
  have n7 := box_not_row h.x7 (by decide) h.row
  have y5 := k2.boxed (fun r hr e => n5 r hr e.symm) h.x5
  have y6 := k2.boxed (fun r hr e => n6 r hr e.symm) h.x6
  have y7 := k2.boxed (fun r hr e => n7 r hr e.symm) h.x7
  have hl : (all ++ [x]).length = all.length + 1 := by simp
  have hg6 : g ≠ b6 := by
    rcases hat with e | e
    · exact n6 g e
    · have := h.x6.lt; have := hX1.size; omega
  refine ⟨⟨y5.other (by exact h.ne.1) _, y6.set _, y7.other (by exact Ne.symm h.ne.2.2) _, ?_, fun g' hg' => ?_, h.r5, h.r6, h.r7, h.ne⟩, (k2.less fun k hk _ => hk.2).trans (Sq.Kept.setCell _ _ (fun hk => hk.1 rfl))⟩
  · rw [hl, Vs.vcs_snoc]
    exact Ob.row_other hown (by simp [Value.ownBlock, hg6]) _
  · obtain rfl : g = g' := by simpa [Value.ownBlock] using hg'
    rcases hat with e | e
    · exact h.own g e
    · have := hX1.size
      exact ⟨fun hr => by have := hR g hr; omega, fun ht => by have := hT g ht; omega⟩
theorem CS.set7 (h : CS R T b5 b6 b7 wv all n u X) (M : Int) (m : Nat) (hM : M = m) : CS R T b5 b6 b7 wv all m u (X.setCell ⟨b7, 0, none⟩ (.int .i64 M)) ∧ Sq.Kept (fun k => k ≠ b7) X (X.setCell ⟨b7, 0, none⟩ (.int .i64 M)) := by
  subst hM
  have n7 := box_not_row h.x7 (by decide) h.row
  have hk : Sq.Kept (fun k => k ≠ b7) X (X.setCell ⟨b7, 0, none⟩ (.int .i64 (m : Int))) := Sq.Kept.setCell _ _ (by simp)
  exact ⟨⟨hk.boxed h.ne.2.1 h.x5, hk.boxed h.ne.2.2 h.x6, h.x7.set _, Sq.row_kept h.row hk (fun g hg => n7 g hg), h.own, h.r5, h.r6, h.r7, h.ne⟩, hk⟩
theorem CS.cells (h : CS R T b5 b6 b7 wv all n u X) : X.cell? ⟨b5, 0, none⟩ = some wv ∧ X.cell? ⟨b6, 0, none⟩ = some u ∧ X.cell? ⟨b7, 0, none⟩ = some (.int .i64 (n : Int)) ∧ X.frozen? ⟨b6, 0, none⟩ = false ∧ X.frozen? ⟨b7, 0, none⟩ = false ∧ b5 < X.heap.size ∧ b6 < X.heap.size ∧ b7 < X.heap.size :=
  ⟨h.x5.cell, h.x6.cell, h.x7.cell, h.x6.frozen, h.x7.frozen, h.x5.lt, h.x6.lt, h.x7.lt⟩
end Mg
end Go.Proofs.Ytaohipgfnnclhaa
