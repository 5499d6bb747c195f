import Derived.Laws.OwnMore
import Derived.BigRegion
import Derived.Deep.RegionHeld3
import Derived.Test.YtdaafledkloegaaProg
import Derived.JoinedCond
import Derived.Below
import Derived.ProofKit
import Derived.Maps.OwnSet
import Derived.DeepKeys4
import Derived.Deep.DeepCutAuto
import Derived.Deep.QuietTactic
import Derived.BigQuiet
import Derived.Deep.Cut
import Derived.Deep.CutRange
import Derived.Shelf.Abstract
import Derived.Shelf.RegionOpen
import Derived.OwnWalkIn
import Derived.TacticsInMore
import Derived.LoopNIn
import Derived.LoopIn
import Derived.Lib.SliceRun
import Derived.Test.YtdaafledkloegaaPart3
/-
  The document's answer of P14.3: tapestryref14.Decode.
-/
namespace Go.Proofs.Ytdaafledkloegaa
open Go.RowKit
set_option linter.unusedSimpArgs false
set_option linter.unusedVariables false
theorem info_i64e : (Try.prog.info? 2).map (fun i => (i.zero, i.size, i.bytes)) = some (some (.int .i64 0), 1, 8) := by kernel_rfl
namespace Ev
theorem ext_dropE (l : Dat) (k : Nat) : (Cd.bs l).extract k l.length = Cd.bs (l.drop k) := by
  have : ((Cd.bs l).extract k l.length).data.toList = l.drop k := by
    rw [Lib.extract_data]; exact List.take_of_length_le (by simp)
  rw [← this]
/-- the cells of a result of nine -/
def put9 (W : World) (b : Nat) (v0 v1 v2 v3 v4 v5 v6 v7 v8 : Value) : World :=
  ((((((((W.setCell ⟨b, 0, none⟩ v0).setCell ⟨b, 1, none⟩ v1).setCell ⟨b, 2, none⟩ v2).setCell ⟨b, 3, none⟩ v3).setCell ⟨b, 4, none⟩ v4).setCell ⟨b, 5, none⟩ v5).setCell ⟨b, 6, none⟩ v6).setCell ⟨b, 7, none⟩ v7).setCell ⟨b, 8, none⟩ v8
theorem put9_below {B b : Nat} {w W : World} (h : Below B w W) (hb : B ≤ b) (v0 v1 v2 v3 v4 v5 v6 v7 v8 : Value) : Below B w (put9 W b v0 v1 v2 v3 v4 v5 v6 v7 v8) :=
  ((((((((h.setCell (p := ⟨b, 0, none⟩) hb v0).setCell (p := ⟨b, 1, none⟩) hb v1).setCell (p := ⟨b, 2, none⟩) hb v2).setCell (p := ⟨b, 3, none⟩) hb v3).setCell (p := ⟨b, 4, none⟩) hb v4).setCell (p := ⟨b, 5, none⟩) hb v5).setCell (p := ⟨b, 6, none⟩) hb v6).setCell (p := ⟨b, 7, none⟩) hb v7).setCell (p := ⟨b, 8, none⟩) hb v8
def iC (L : List Int) : List Value := L.map fun x => .int .i64 x
def nc (V : List Int) : List Value := [.int .i64 (V.getD 0 0), .int .i64 (V.getD 1 0), .int .i64 (V.getD 2 0), .int .i64 (V.getD 3 0), .int .i64 (V.getD 4 0), .int .i64 (V.getD 5 0)]
theorem nc_set {V : List Int} {q : Nat} (hV : V.length = q) (hq : q < 6) (v : Int) : (nc V).set q (.int .i64 v) = nc (V ++ [v]) := by
  subst hV
  match V, hq with
  | [], _ => rfl
  | [a], _ => rfl
  | [a, b], _ => rfl
  | [a, b, c], _ => rfl
  | [a, b, c, d], _ => rfl
  | [a, b, c, d, e], _ => rfl
  | a :: b :: c :: d :: e :: f :: r, h => simp at h; omega
theorem evV_mk (i t k : Int) (V : List Int) : evV (mk i t k V) = .agg #[.int .i64 i, .int .i64 t, .int .i64 k, .int .i64 (V.getD 0 0), .int .i64 (V.getD 1 0), .int .i64 (V.getD 2 0), .int .i64 (V.getD 3 0), .int .i64 (V.getD 4 0), .int .i64 (V.getD 5 0)] := rfl
theorem evV_zero : evV zero = .agg #[.int .i64 0, .int .i64 0, .int .i64 0, .int .i64 0, .int .i64 0, .int .i64 0, .int .i64 0, .int .i64 0, .int .i64 0] := rfl
/-- what a decoder leaves -/
def DecOut14 (l : Dat) (w : World) (r : Ending) (w' : World) : Prop := r = .returned (.tuple #[evV (dec l).1, .int .i64 ((dec l).2.1 : Nat), .int .i64 ((dec l).2.2 : Nat)]) ∧ Below w.heap.size w w'

end Ev
end Go.Proofs.Ytdaafledkloegaa
/-
  Two roots that read alike are alike: tapestryref04's SameRoot, tapestryref03's SameInts, over whatever slices.
-/
namespace Go.Proofs.Ytdaafledkloegaa
open Go.RowKit
set_option linter.unusedSimpArgs false
set_option linter.unusedVariables false

theorem Fi.Ints.drewN {B : Nat} {W : World} {v : Value} {l : List Int} (h : Fi.Ints B W v l) (n : Nat) : Fi.Ints B (W.drewN n) v l := h
theorem Fi.Ints.grow' {B B' : Nat} {W W' : World} {v : Value} {l : List Int} (h : Fi.Ints B W v l) (hb : Below B' W W') (hB : B ≤ B') : Fi.Ints B W' v l := by
  obtain ⟨a, cap, b, off, h1, h2, h3⟩ := h
  exact ⟨a, cap, b, off, h1, h2, fun j hj => (hb.cell (p := ⟨b, off + j, none⟩) (Nat.lt_of_lt_of_le (h2 (by omega)).2 hB)).trans (h3 j hj)⟩

end Go.Proofs.Ytdaafledkloegaa
/-
  The document's answers of P14.4 and P14.5: tapestryref14.Has, Same, Pack, Unpack.
-/
namespace Go.Proofs.Ytdaafledkloegaa
open Go.RowKit
set_option linter.unusedSimpArgs false
set_option linter.unusedVariables false
namespace Ev
/-- what the reading of a row of events leaves -/
def UnpOut (l : Dat) (w : World) (r : Ending) (w' : World) : Prop :=
  ∃ v, r = .returned (.tuple #[v, .int .i64 ((unpack l).2.1 : Nat), .int .i64 ((unpack l).2.2 : Nat)]) ∧ w'.ownsRow w.heap.size 41 9 v (unpack l).1.length (ecs (unpack l).1) ∧ (∀ x ∈ (unpack l).1, EvIn x) ∧ (unpack l).1.length ≤ l.length ∧ Below w.heap.size w w'
theorem hasB_in {ks : List Int} {k : Int} {q : Nat} (hq : q < ks.length) (h : ks[q] = k) : hasB ks k = true := by
  unfold hasB
  simp only [Bool.or_eq_true]
  exact .inr (List.contains_iff_mem.2 (h ▸ List.getElem_mem hq))
theorem hasB_out {ks : List Int} {k : Int} (h : ∀ q (hq : q < ks.length), ks[q] ≠ k) : hasB ks k = decide (ks.length = 0) := by
  unfold hasB
  have : ks.contains k = false := by
    cases hc : ks.contains k with
    | false => rfl
    | true =>
      obtain ⟨q, hq, e⟩ := List.getElem_of_mem (List.contains_iff_mem.1 hc)
      exact absurd e (h q hq)
  rw [this, Bool.or_false]
  cases ks <;> simp

set_option maxRecDepth 100000 in
set_option maxHeartbeats 4000000 in
theorem hasR_any {B : Nat} (v : Value) (ks : List Int) (k : Int) (w : World) (h : Fi.Ints B w v ks) (hl : ks.length ≤ 1073741824) :
    Calls Try.prog 33 #[v, .int .i64 k] w fun e w' => e = .returned (.bool (hasB ks k)) ∧ w = w' := by
  obtain ⟨a, cap, b, off, rfl, ha, hc⟩ := h
  have HA := Lib.hid ha
  have HC := Lib.hid hc
  clear ha hc
  go_enter Try.func33, Try.ntmps33
  go_wp2_with fail
  go_loopw [5] (fun i wr => ∃ q : Nat, q ≤ ks.length ∧ i = .int .i64 (q : Int) ∧ Hid (∀ j (hj : j < ks.length), j < q → ks[j] ≠ k) ∧ w = wr) (fun i _ => ks.length - (intOf i).toNat)
  case atStart => exact ⟨0, Nat.zero_le _, rfl, (fun j hj h => absurd h (by omega)), rfl⟩
  case round =>
    obtain ⟨q, hq, rfl, hno, rfl⟩ := hrel
    by_cases hlt : q < ks.length
    · obtain ⟨rfl, _⟩ := HA.out (by omega)
      have c0 := HC.out q hlt
      have hi1 : (0 : Int) ≤ (q : Int) ∧ (q : Int) < (ks.length : Int) := by omega
      have HIN := Lib.hid (fun h => hasB_in (k := k) hlt h)
      have HNO := Lib.hid (fun (h : ks[q] ≠ k) => show ∀ j (hj : j < ks.length), j < q + 1 → ks[j] ≠ k from fun j hj h2 => if e : j = q then (by subst e; exact h) else hno.out j hj (by omega))
      clear hno HC HA
      generalize ks[q] = x at *
      by_cases hxk : x = k
      · subst hxk
        have HI := Lib.hid (HIN.out rfl)
        clear HIN HNO
        go_wp2_with fail
        go_ret
        exact ⟨by rw [HI.out]; rfl, rfl⟩
      · have hxb : (x == k) = false := by simpa using hxk
        have HN2 := Lib.hid (HNO.out hxk)
        clear HIN HNO hxk
        go_wp2_with fail
        go_roundw
        case rel => exact ⟨q + 1, by omega, by go_num, HN2, by trivial⟩
        case measure => simp [intOf]; omega
    · obtain rfl : q = ks.length := by omega
      have HO := Lib.hid (hasB_out (ks := ks) (k := k) (fun j hj => hno.out j hj hj))
      clear hno
      go_wp2_with fail
      go_ret
      refine ⟨?_, rfl⟩
      rw [HO.out]
      cases ks with
      | nil => rfl
      | cons x r => simp; try omega

set_option maxRecDepth 100000 in
set_option maxHeartbeats 8000000 in
theorem sameE_any {B1 B2 : Nat} {v1 v2 : Value} {L : List Evt} (w : World) (h1 : Evs B1 w v1 L) (h2 : Evs B2 w v2 L) (hl : L.length ≤ 1073741824) :
    Calls Try.prog 10 #[v1, v2] w fun e w' => e = .returned (.bool true) ∧ ∃ m, w' = w.drewN m := by
  obtain ⟨a1, c1, b1, o1, rfl, g1, k1⟩ := h1
  obtain ⟨a2, c2, b2, o2, rfl, g2, k2⟩ := h2
  go_enter Try.func10, Try.ntmps10
  go_wp2_with fail
  go_loopw [5] (fun i wr => ∃ k m : Nat, k ≤ L.length ∧ i = .int .i64 k ∧ wr = w.drewN m) (fun i _ => L.length - (intOf i).toNat)
  case atStart => exact ⟨0, 0, Nat.zero_le _, rfl, rfl⟩
  case round =>
    obtain ⟨k, m, hk, rfl, rfl⟩ := hrel
    by_cases hlt : k < L.length
    · obtain ⟨rfl, _⟩ := g1 (by omega)
      obtain ⟨rfl, _⟩ := g2 (by omega)
      have e0 := k1 k hlt 0 (by decide)
      have e1 := k1 k hlt 1 (by decide)
      have e2 := k1 k hlt 2 (by decide)
      have e3 := k1 k hlt 3 (by decide)
      have e4 := k1 k hlt 4 (by decide)
      have e5 := k1 k hlt 5 (by decide)
      have e6 := k1 k hlt 6 (by decide)
      have e7 := k1 k hlt 7 (by decide)
      have e8 := k1 k hlt 8 (by decide)
      have f0 := k2 k hlt 0 (by decide)
      have f1 := k2 k hlt 1 (by decide)
      have f2 := k2 k hlt 2 (by decide)
      have f3 := k2 k hlt 3 (by decide)
      have f4 := k2 k hlt 4 (by decide)
      have f5 := k2 k hlt 5 (by decide)
      have f6 := k2 k hlt 6 (by decide)
      have f7 := k2 k hlt 7 (by decide)
      have f8 := k2 k hlt 8 (by decide)
      have hi1 : (0 : Int) ≤ (k : Int) ∧ (k : Int) < (L.length : Int) := by omega
      clear k1 k2
      generalize L[k] = x at *
      unfold evC at e0 e1 e2 e3 e4 e5 e6 e7 e8 f0 f1 f2 f3 f4 f5 f6 f7 f8
      simp only [List.getElem?_cons_zero, List.getElem?_cons_succ, Nat.add_zero] at e0 e1 e2 e3 e4 e5 e6 e7 e8 f0 f1 f2 f3 f4 f5 f6 f7 f8
      go_wp2_with fail
      go_big_quiet (fail)
      go_wp2_with fail
      go_roundw
      case rel => exact ⟨k + 1, m + nq, by omega, by go_num, rfl⟩
      case measure => simp [intOf]; omega
    · obtain rfl : k = L.length := by omega
      go_wp2_with fail
      go_ret
      exact ⟨rfl, m, rfl⟩

end Ev
end Go.Proofs.Ytdaafledkloegaa

/-
  The document's small calls of chapter 15: named, is.
-/
namespace Go.Proofs.Ytdaafledkloegaa
open Go.RowKit
set_option linter.unusedSimpArgs false
set_option linter.unusedVariables false
namespace Gr
open Ev (Evt EvIn hasB validB command closing zero fields Evs AtE evC evV W64)

theorem ev_at {H : List Evt} {i : Nat} (h : i < H.length) : ev H i = H[i] := by
  unfold ev; rw [List.getD_eq_getElem?_getD, List.getElem?_eq_getElem h]; rfl

set_option maxRecDepth 100000 in
set_option maxHeartbeats 4000000 in
theorem namedR_any {B B2 : Nat} (hv kv : Value) (H : List Evt) (tt : Nat) (id : Int) (ks : List Int) (w : World) (hE : Evs B w hv H) (hK : Fi.Ints B2 w kv ks) (ht : tt ≤ H.length) (hl : H.length ≤ 1048576) (hkl : ks.length ≤ 1048576) :
    Calls Try.prog 21 #[hv, .int .i64 (tt : Int), .int .i64 id, kv] w fun e w' => e = .returned (.bool (namedB H tt id ks)) ∧ w = w' := by
  have HH := Lib.hid (fun k => Ev.hasR_any kv ks k w hK (by omega))
  have HY := Lib.hid (fun j (h1 : j < tt) (h2 : hasB ks (ev H j).kind = true) (h3 : (ev H j).a = id) => (named_iff (H := H) (id := id) (ks := ks) ht).2 ⟨j, h1, h2, h3⟩)
  have HN := Lib.hid (fun (h : ∀ j, j < tt → ¬ (hasB ks (ev H j).kind = true ∧ (ev H j).a = id)) => show namedB H tt id ks = false from by
    cases hb : namedB H tt id ks with
    | false => rfl
    | true =>
      obtain ⟨j, h1, h2⟩ := (named_iff ht).1 hb
      exact absurd h2 (h j h1))
  generalize namedB H tt id ks = nb at *
  obtain ⟨a, cap, b, off, rfl, ha, hc⟩ := hE
  have HA := Lib.hid ha
  have HC := Lib.hid (fun j (hj : j < H.length) => show AtE w b (off + j * 9) (ev H j) from by rw [ev_at hj]; exact hc j hj)
  obtain ⟨ka, kcap, kb, ko, rfl, _⟩ := hK
  clear ha hc
  go_enter Try.func21, Try.ntmps21
  go_wp2_with fail
  go_loopw [9] (fun i wr => ∃ q : Nat, q ≤ tt ∧ i = .int .i64 (q : Int) ∧ Hid (∀ j, j < q → ¬ (hasB ks (ev H j).kind = true ∧ (ev H j).a = id)) ∧ w = wr) (fun i _ => tt - (intOf i).toNat)
  case atStart => exact ⟨0, Nat.zero_le _, rfl, (fun j hj => absurd hj (by omega)), rfl⟩
  case round =>
    obtain ⟨q, hq, rfl, hno, rfl⟩ := hrel
    by_cases hlt : q < tt
    · obtain ⟨rfl, _⟩ := HA.out (by omega)
      have hAT := HC.out q (by omega)
      have e2 := hAT 2 (by decide)
      have e3 := hAT 3 (by decide)
      have hi1 : (0 : Int) ≤ (q : Int) ∧ (q : Int) < (H.length : Int) ∧ (q : Int) < (tt : Int) := by omega
      have HY1 := Lib.hid (fun h1 h2 => HY.out q hlt h1 h2)
      have HNO := Lib.hid (fun (h : ¬ (hasB ks (ev H q).kind = true ∧ (ev H q).a = id)) => show ∀ j, j < q + 1 → ¬ (hasB ks (ev H j).kind = true ∧ (ev H j).a = id) from fun j hj => if e : j = q then e ▸ h else hno.out j (by omega))
      have HH1 := Lib.hid (HH.out (ev H q).kind)
      clear hAT hno HC HA HY HH
      generalize ev H q = x at *
      obtain ⟨xi, xt, xk, xa, xb, xc, xd, xe, xf⟩ := x
      unfold evC at e2 e3
      simp only [List.getElem?_cons_zero, List.getElem?_cons_succ, Nat.add_zero] at e2 e3
      simp only at HY1 HNO HH1
      generalize hasB ks xk = hb at *
      cases hb with
      | false =>
        have HNO2 := Lib.hid (HNO.out (by simp))
        clear HNO HY1
        go_wp2_with (go_at_call 33; (with_reducible refine HH1.out.mono ?_); rintro e w1 ⟨rfl, rfl⟩)
        go_roundw
        case rel => exact ⟨q + 1, by omega, by go_num, HNO2, by trivial⟩
        case measure => simp [intOf]; omega
      | true =>
        by_cases hxa : xa = id
        · subst hxa
          obtain rfl := HY1.out rfl rfl
          clear HNO HN
          go_wp2_with (go_at_call 33; (with_reducible refine HH1.out.mono ?_); rintro e w1 ⟨rfl, rfl⟩)
          go_ret
          exact ⟨rfl, rfl⟩
        · have hxb : (xa == id) = false := by simpa using hxa
          have HNO2 := Lib.hid (HNO.out (by simp [hxa]))
          clear HNO HY1 hxa
          go_wp2_with (go_at_call 33; (with_reducible refine HH1.out.mono ?_); rintro e w1 ⟨rfl, rfl⟩)
          go_roundw
          case rel => exact ⟨q + 1, by omega, by go_num, HNO2, by trivial⟩
          case measure => simp [intOf]; omega
    · obtain rfl : q = tt := by omega
      obtain rfl := HN.out hno.out
      clear hno
      go_wp2_with fail
      go_ret
      exact ⟨rfl, rfl⟩

set_option maxRecDepth 100000 in
set_option maxHeartbeats 4000000 in
theorem isR_any {B : Nat} (hv : Value) (H : List Evt) (tt : Nat) (id k : Int) (w : World) (hE : Evs B w hv H) (ht : tt ≤ H.length) (hl : H.length ≤ 1048576) :
    Calls Try.prog 41 #[hv, .int .i64 (tt : Int), .int .i64 id, .int .i64 k] w fun e w' => e = .returned (.bool (isB H tt id k)) ∧ w = w' := by
  obtain ⟨a, cap, b, off, rfl, ha, hc⟩ := hE
  by_cases h1 : id ≥ 1
  · by_cases h2 : id ≤ (tt : Int)
    · obtain ⟨m, rfl⟩ : ∃ m : Nat, id = (m : Int) + 1 := ⟨(id - 1).toNat, by omega⟩
      have hm : m < H.length := by omega
      obtain ⟨rfl, _⟩ := ha (by omega)
      have e2 := hc m hm 2 (by decide)
      have HI := Lib.hid (show isB H tt ((m : Int) + 1) k = decide (H[m].kind = k) from by
        unfold isB
        rw [show ((m : Int) + 1 - 1).toNat = m by omega, ev_at hm, decide_eq_true (show (1 : Int) ≤ (m : Int) + 1 by omega), decide_eq_true h2]; simp)
      have hw : IntKind.i64.wrap ((m : Int) + 1 - 1) = (m : Int) := by rw [IntKind.wrap_i64]; omega
      have hi1 : (0 : Int) ≤ (m : Int) ∧ (m : Int) < (H.length : Int) := by omega
      clear ha hc
      generalize H[m] = x at *
      obtain ⟨xi, xt, xk, xa, xb, xc, xd, xe, xf⟩ := x
      unfold evC at e2
      simp only [List.getElem?_cons_zero, List.getElem?_cons_succ, Nat.add_zero] at e2
      simp only at HI
      go_enter Try.func41, Try.ntmps41
      go_wp2_with fail
      all_goals go_ret
      all_goals exact ⟨by rw [HI.out]; first | rfl | (simp; done), rfl⟩
    · have h2b : decide (id ≤ (tt : Int)) = false := decide_eq_false h2
      have HI := Lib.hid (show isB H tt id k = false from by unfold isB; rw [h2b]; simp)
      clear ha hc
      go_enter Try.func41, Try.ntmps41
      go_wp2_with fail
      go_ret
      exact ⟨by rw [HI.out]; rfl, rfl⟩
  · have h1b : decide (id ≥ 1) = false := decide_eq_false h1
    have HI := Lib.hid (show isB H tt id k = false from by unfold isB; rw [show decide (1 ≤ id) = false from h1b]; rfl)
    clear ha hc
    go_enter Try.func41, Try.ntmps41
    go_wp2_with fail
    go_ret
    exact ⟨by rw [HI.out]; rfl, rfl⟩

end Gr
end Go.Proofs.Ytdaafledkloegaa

/-
  The dump is laid out.
-/
namespace Go.Proofs.Ytdaafledkloegaa
open Go.RowKit
theorem laidOut : laidOutB Try.prog = true := by kernel_rfl
end Go.Proofs.Ytdaafledkloegaa

/-
  What the program has gone through: its map of what was named; has, free, awaits.
-/
namespace Go.Proofs.Ytdaafledkloegaa
open Go.RowKit
set_option linter.unusedSimpArgs false
set_option linter.unusedVariables false
namespace Gr
open Ev (Evt EvIn hasB validB command closing zero fields Evs AtE evC evV W64)

open Go.Maps Go.WideElems
theorem rowName : 56 < Try.prog.types.size := Nat.le_of_ble_eq_true (by kernel_rfl)
theorem wideName : (match Try.prog.underlying 56 with | some (.array _ _) | some (.struct _) => true | _ => false) = true := by kernel_rfl
theorem lawName0 : Go.WideMaps.KeyLaw Try.prog 56 := deep_law_laid laidOut (m := 2) (by omega) rowName (by kernel_rfl) wideName
theorem lawName : Keyed Try.prog 56 := Keyed.of_law lawName0
theorem zeroInt (w : World) : (zeroValue 3).run Try.prog w = .ok (.int .i64 0) w := by kernel_rfl
/-- a key as the map's words have it -/
def keyL (k i : Int) : Lit := .string (keyBytes [.int .i64 k, .int .i64 i])
theorem wfW {n : Int} (h : W64 n) : (Lit.int .i64 n).wf = true := by
  unfold W64 at h
  simp [Lit.wf, IntKind.min, IntKind.max, IntKind.signed, IntKind.bits]
  omega
theorem kt : Try.prog.keyType 56 = true := by kernel_rfl
theorem fm (k i : Int) : (Value.agg #[.int .i64 k, .int .i64 i]).formed Try.prog 56 = true := by kernel_rfl
set_option maxRecDepth 100000 in
theorem keyLits_of {k i : Int} (h1 : (Lit.int .i64 k).wf = true) (h2 : (Lit.int .i64 i).wf = true) : Try.prog.keyLits (Try.prog.types.size + 1) 56 [.int .i64 k, .int .i64 i] = some [.int .i64 k, .int .i64 i] := by
  have e3 : Try.prog.underlying 3 = some (.int .i64) := by kernel_rfl
  have e2 : Try.prog.underlying 2 = some (.int .i64) := by kernel_rfl
  have c3 : Try.prog.cellsOf 3 = 1 := by kernel_rfl
  have c2 : Try.prog.cellsOf 2 = 1 := by kernel_rfl
  have c56 : Try.prog.cellsOf 56 = 2 := by kernel_rfl
  obtain ⟨d, hd⟩ : ∃ d, Try.prog.types.size = d + 1 := ⟨Try.prog.types.size - 1, by kernel_rfl⟩
  rw [hd]
  simp only [Program.keyLits, Try.underlying56, c56, e3, e2]
  simp [c3, c2, h1, h2]
theorem keyL_of {k i : Int} (hk : W64 k) (hi : W64 i) : keyOf Try.prog 56 (.agg #[.int .i64 k, .int .i64 i]) = some (keyL k i) := by
  have h1 := wfW hk
  have h2 := wfW hi
  unfold keyOf
  rw [Try.underlying56]
  simp only [kt, fm, Bool.and_self, if_true, Value.cells]
  rw [keyLits_of h1 h2]
  rfl
theorem keyL_inj {k i k2 i2 : Int} (hk : W64 k) (hi : W64 i) (hk2 : W64 k2) (hi2 : W64 i2) (h : keyL k i = keyL k2 i2) : k = k2 ∧ i = i2 := by
  have e := lawName.inj (keyL_of hk hi) (h ▸ keyL_of hk2 hi2)
  simp at e
  exact e
/-- the map of what was named by those gone through -/
def Past (W : World) (mb : Nat) (L : List Evt) : Prop :=
  ∃ (D : DataW Unit) (m : Nat), W.ownsMap Try.prog 56 (plainElem Try.prog 3) mb m D ∧ m ≤ L.length ∧ ∀ k i, W64 k → W64 i → D.atKey (keyL k i) (.lit (.int .i64 0)) = .lit (.int .i64 (cnt L k i : Int))
theorem Past.lt {W : World} {mb : Nat} {L : List Evt} (h : Past W mb L) : mb < W.heap.size := by
  obtain ⟨D, m, h, _⟩ := h
  exact h.lt
theorem Past.below {W W' : World} {mb B : Nat} {L : List Evt} (h : Past W mb L) (hb : Below B W W') (hm : mb < B) : Past W' mb L := by
  obtain ⟨D, m, h, h2⟩ := h
  refine ⟨D, m, ?_, h2⟩
  obtain ⟨es, clock, hh, r⟩ := h
  exact ⟨es, clock, (hb.block mb hm).trans hh, r⟩
theorem Past.grow {W W' : World} {mb : Nat} {L : List Evt} (h : Past W mb L) (hb : Below W.heap.size W W') : Past W' mb L := h.below hb h.lt
/-- what a look-up gives -/
theorem Past.look {W : World} {mb : Nat} {L : List Evt} (h : Past W mb L) {k i : Int} (hk : W64 k) (hi : W64 i) :
    (Instr.lookup 43 (.map (some mb)) (.agg #[.int .i64 k, .int .i64 i]) false).run Try.prog W = .ok (.int .i64 (cnt L k i : Int)) W := by
  obtain ⟨D, m, h, _, h2⟩ := h
  obtain ⟨c, hrun, hat, _⟩ := h.lookup_int lawName Try.underlying43 Try.underlying3 (zeroInt W) (keyL_of hk hi)
  rw [h2 k i hk hi] at hat
  simp at hat
  rw [hat]
  exact hrun

set_option maxRecDepth 100000 in
set_option maxHeartbeats 4000000 in
theorem has_any (a : Option Addr) (n cap mb : Nat) (L : List Evt) (id k : Int) (w : World) (hP : Past w mb L) (hL : L.length ≤ 1048576) (hk : about k ≠ 0) (wk : W64 k) (wi : W64 id) :
    Calls Try.prog 43 #[.agg #[.slice a n cap, .map (some mb)], .int .i64 id, .int .i64 k] w fun e w' => e = .returned (.bool (nmd L id [k])) ∧ Below w.heap.size w w' := by
  have HV := Lib.hid (cnt_nmd (L := L) (id := id) hk)
  obtain ⟨wx, hwx⟩ : ∃ wx, w.alloc (.cells #[.slice a n cap, .map (some mb)] 45) = wx := ⟨_, rfl⟩
  have oX := Ob.Obj.new w 45 [.slice a n cap, .map (some mb)]
  rw [show w.alloc (.cells ([.slice a n cap, .map (some mb)] : List Value).toArray 45) = wx from hwx] at oX
  have hA : Below w.heap.size w wx := by rw [← hwx]; exact (Below.refl _ _).alloc (Nat.le_refl _) _
  have hlook := (hP.grow hA).look (k := k) (i := id) wk wi
  have x0 := oX.cell 0
  have x1 := oX.cell 1
  have hxl := oX.lt
  simp at x0 x1
  generalize hc : cnt L k id = c at *
  clear hP hc oX
  go_enter Try.func43, Try.ntmps43
  go_wp2_with fail
  go_ret
  exact ⟨by rw [← HV.out]; first | rfl | (simp; done), hA⟩

set_option maxRecDepth 100000 in
set_option maxHeartbeats 4000000 in
theorem free_any {B : Nat} (a : Option Addr) (n cap mb : Nat) (L : List Evt) (id : Int) (kv : Value) (ks : List Int) (w : World) (hP : Past w mb L) (hL : L.length ≤ 1048576) (hK : Fi.Ints w.heap.size w kv ks) (hks : ks ≠ []) (hkl : ks.length ≤ 1048576)
    (hk : ∀ k ∈ ks, about k ≠ 0 ∧ W64 k) (wi : W64 id) :
    Calls Try.prog 32 #[.agg #[.slice a n cap, .map (some mb)], .int .i64 id, kv] w fun e w' => e = .returned (.bool (!nmd L id ks)) ∧ Below w.heap.size w w' := by
  have HN := Lib.hid (fun (h : ∀ q (hq : q < ks.length), nmd L id [ks[q]] = false) => nmd_none (L := L) (id := id) hks h)
  have HS := Lib.hid (fun q (hq : q < ks.length) (h : nmd L id [ks[q]] = true) => nmd_some (L := L) (id := id) hq h)
  obtain ⟨wx, hwx⟩ : ∃ wx, w.alloc (.cells #[.slice a n cap, .map (some mb)] 45) = wx := ⟨_, rfl⟩
  have oX := Ob.Obj.new w 45 [.slice a n cap, .map (some mb)]
  rw [show w.alloc (.cells ([.slice a n cap, .map (some mb)] : List Value).toArray 45) = wx from hwx] at oX
  have hA : Below w.heap.size w wx := by rw [← hwx]; exact (Below.refl _ _).alloc (Nat.le_refl _) _
  have HH := Lib.hid (fun q (hq : q < ks.length) W (hb : Below wx.heap.size wx W) => has_any a n cap mb L id ks[q] W ((hP.grow hA).grow hb) hL (hk _ (List.getElem_mem hq)).1 (hk _ (List.getElem_mem hq)).2 wi)
  obtain ⟨ka, kcap, kb, ko, rfl, ha, hc⟩ := hK
  have HA := Lib.hid ha
  have HC := Lib.hid (fun q (hq : q < ks.length) W (hb : Below wx.heap.size wx W) => show W.cell? ⟨kb, ko + q, none⟩ = some (.int .i64 ks[q]) from
    (hA.trans (hb.mono hA.size)).cell (p := ⟨kb, ko + q, none⟩) (ha (by omega)).2 |>.trans (hc q hq))
  have HO := Lib.hid oX
  have HX := Lib.hid hA
  have hxs := hA.size
  have x0 := oX.cell 0
  have x1 := oX.cell 1
  have hxl := oX.lt
  simp at x0 x1
  clear hP hk hc ha hA oX hks
  go_enter Try.func32, Try.ntmps32
  go_wp2_with fail
  go_loopw [11] (fun i wr => ∃ q : Nat, q ≤ ks.length ∧ i = .int .i64 (q : Int) ∧ Hid (∀ j (hj : j < ks.length), j < q → nmd L id [ks[j]] = false) ∧ Below wx.heap.size wx wr) (fun i _ => ks.length - (intOf i).toNat)
  case atStart => exact ⟨0, Nat.zero_le _, rfl, (fun j hj h => absurd h (by omega)), Below.refl _ _⟩
  case round =>
    obtain ⟨q, hq, rfl, hno, hB⟩ := hrel
    obtain ⟨wo, rfl⟩ : ∃ wo : World, wo = wr := ⟨_, rfl⟩
    have hbs := hB.size
    by_cases hlt : q < ks.length
    · obtain ⟨rfl, _⟩ := HA.out (by omega)
      have c0 := HC.out q hlt wo hB
      have HQ := Lib.hid (HH.out q hlt wo hB)
      have HSQ := Lib.hid (HS.out q hlt)
      have hi1 : (0 : Int) ≤ (q : Int) ∧ (q : Int) < (ks.length : Int) := by omega
      have oW := HO.out.below hB
      have z0 := oW.cell 0
      have z1 := oW.cell 1
      have hzl := oW.lt
      simp at z0 z1
      have HNO := Lib.hid (fun (h : nmd L id [ks[q]] = false) => show ∀ j (hj : j < ks.length), j < q + 1 → nmd L id [ks[j]] = false from fun j hj h2 => if e : j = q then (by subst e; exact h) else hno.out j hj (by omega))
      have HB := Lib.hid hB
      clear hno HC HA oW hB HH HS
      generalize nmd L id [ks[q]] = nb at *
      cases nb with
      | false =>
        have HN2 := Lib.hid (HNO.out rfl)
        clear HNO HSQ
        go_wp2_with (go_at_call 43; (with_reducible refine HQ.out.mono ?_); rintro e w1 ⟨rfl, hb1⟩; have hB1 := HB.out.trans (hb1.mono hbs))
        go_roundw
        case rel => exact ⟨q + 1, by omega, by go_num, HN2, hB1⟩
        case measure => simp [intOf]; omega
      | true =>
        have HV := Lib.hid (HSQ.out rfl)
        clear HNO HSQ HN
        go_wp2_with (go_at_call 43; (with_reducible refine HQ.out.mono ?_); rintro e w1 ⟨rfl, hb1⟩; have hB1 := HB.out.trans (hb1.mono hbs))
        go_ret
        exact ⟨by rw [HV.out]; rfl, HX.out.trans (hB1.mono hxs)⟩
    · obtain rfl : q = ks.length := by omega
      have HV := Lib.hid (HN.out (fun j hj => hno.out j hj hj))
      clear hno
      go_wp2_with fail
      go_ret
      exact ⟨by rw [HV.out]; rfl, HX.out.trans (hB.mono hxs)⟩

end Gr
end Go.Proofs.Ytdaafledkloegaa

/-
  The document's call names of chapter 15.
-/
namespace Go.Proofs.Ytdaafledkloegaa
open Go.RowKit
set_option linter.unusedSimpArgs false
set_option linter.unusedVariables false
namespace Gr
open Ev (Evt EvIn hasB validB command closing zero fields Evs AtE evC evV W64)

/-- what names answers, from the kind and what was asked -/
def nmV (k : Int) (i3 i4 i5 i9 i21 n0 n1 n2 n3 n4 n5 n6 n7 n8 n9 tm : Bool) : Bool :=
  if k = 6 ∨ k = 22 ∨ k = 23 ∨ k = 24 then i3 && !n0
  else if k = 7 then i4 && !n1
  else if k = 25 then i4 && !n1 && tm
  else if k = 26 ∨ k = 27 then i5 && !n2
  else if k = 28 then i5 && n3 && !n4
  else if k = 8 then i5 && !n5
  else if k = 9 then i5
  else if k = 29 then i9 && !n6
  else if k = 12 ∨ k = 13 then i21 && !n7
  else if k = 14 then i21 && n8 && !n9
  else true
theorem names_val (H : List Evt) (i : Nat) : namesB H i = nmV (ev H i).kind (isB H i (ev H i).a 3) (isB H i (ev H i).a 4) (isB H i (ev H i).a 5) (isB H i (ev H i).a 9) (isB H i (ev H i).a 21) (namedB H i (ev H i).a [6, 22, 23, 24]) (namedB H i (ev H i).a [7, 25]) (namedB H i (ev H i).a [26, 27]) (namedB H i (ev H i).a [26]) (namedB H i (ev H i).a [28]) (namedB H i (ev H i).a [8, 27, 28]) (namedB H i (ev H i).a [29]) (namedB H i (ev H i).a [12, 13]) (namedB H i (ev H i).a [12]) (namedB H i (ev H i).a [14]) (decide ((ev H ((ev H i).a - 1).toNat).a ≤ (ev H i).time)) := rfl
theorem ints_new {W : World} {g : Nat} {te : TypeId} {ks : List Int} (h : Ob.Obj W g te (ks.map fun x => .int .i64 x)) : Fi.Ints W.heap.size W (.slice (some ⟨g, 0, none⟩) ks.length ks.length) ks :=
  ⟨_, ks.length, g, 0, rfl, fun _ => ⟨rfl, h.lt⟩, fun j hj => by rw [show 0 + j = j by omega, h.cell j]; simp [hj]⟩

set_option maxRecDepth 100000 in
set_option maxHeartbeats 16000000 in
theorem namesR_any (hv : Value) (H : List Evt) (i : Nat) (w : World) (hE : Evs w.heap.size w hv H) (hi : i < H.length) (hl : H.length ≤ 1048576) :
    Calls Try.prog 28 #[hv, .int .i64 (i : Int)] w fun e w' => e = .returned (.bool (namesB H i)) ∧ Below w.heap.size w w' := by
  have HI3 := Lib.hid (isR_any hv H i (ev H i).a 3 w hE (by omega) hl)
  have HI4 := Lib.hid (isR_any hv H i (ev H i).a 4 w hE (by omega) hl)
  have HI5 := Lib.hid (isR_any hv H i (ev H i).a 5 w hE (by omega) hl)
  have HI9 := Lib.hid (isR_any hv H i (ev H i).a 9 w hE (by omega) hl)
  have HI21 := Lib.hid (isR_any hv H i (ev H i).a 21 w hE (by omega) hl)
  have hB0 : Below w.heap.size w w := Below.refl _ _
  have o0 := Ob.Obj.new w 3 [.int .i64 6, .int .i64 22, .int .i64 23, .int .i64 24]
  obtain ⟨v0, hv0⟩ : ∃ v0, w.alloc (.cells #[.int .i64 6, .int .i64 22, .int .i64 23, .int .i64 24] 3) = v0 := ⟨_, rfl⟩
  have hB1 : Below w.heap.size w v0 := by rw [← hv0]; exact hB0.alloc hB0.size _
  rw [show w.alloc (.cells ([.int .i64 6, .int .i64 22, .int .i64 23, .int .i64 24] : List Value).toArray 3) = v0 from hv0] at o0
  have HN0 := Lib.hid (namedR_any hv (.slice (some ⟨w.heap.size, 0, none⟩) 4 4) H i (ev H i).a [6, 22, 23, 24] v0 (hE.grow hB1 hB1.size) (ints_new (ks := [6, 22, 23, 24]) o0) (by omega) hl (by simp))
  have o1 := Ob.Obj.new v0 3 [.int .i64 7, .int .i64 25]
  obtain ⟨v1, hv1⟩ : ∃ v1, v0.alloc (.cells #[.int .i64 7, .int .i64 25] 3) = v1 := ⟨_, rfl⟩
  have hB2 : Below w.heap.size w v1 := by rw [← hv1]; exact hB1.alloc hB1.size _
  rw [show v0.alloc (.cells ([.int .i64 7, .int .i64 25] : List Value).toArray 3) = v1 from hv1] at o1
  have HN1 := Lib.hid (namedR_any hv (.slice (some ⟨v0.heap.size, 0, none⟩) 2 2) H i (ev H i).a [7, 25] v1 (hE.grow hB2 hB2.size) (ints_new (ks := [7, 25]) o1) (by omega) hl (by simp))
  have o2 := Ob.Obj.new v1 3 [.int .i64 26, .int .i64 27]
  obtain ⟨v2, hv2⟩ : ∃ v2, v1.alloc (.cells #[.int .i64 26, .int .i64 27] 3) = v2 := ⟨_, rfl⟩
  have hB3 : Below w.heap.size w v2 := by rw [← hv2]; exact hB2.alloc hB2.size _
  rw [show v1.alloc (.cells ([.int .i64 26, .int .i64 27] : List Value).toArray 3) = v2 from hv2] at o2
  have HN2 := Lib.hid (namedR_any hv (.slice (some ⟨v1.heap.size, 0, none⟩) 2 2) H i (ev H i).a [26, 27] v2 (hE.grow hB3 hB3.size) (ints_new (ks := [26, 27]) o2) (by omega) hl (by simp))
  have o3 := Ob.Obj.new v2 3 [.int .i64 26]
  obtain ⟨v3, hv3⟩ : ∃ v3, v2.alloc (.cells #[.int .i64 26] 3) = v3 := ⟨_, rfl⟩
  have hB4 : Below w.heap.size w v3 := by rw [← hv3]; exact hB3.alloc hB3.size _
  rw [show v2.alloc (.cells ([.int .i64 26] : List Value).toArray 3) = v3 from hv3] at o3
  have HN3 := Lib.hid (namedR_any hv (.slice (some ⟨v2.heap.size, 0, none⟩) 1 1) H i (ev H i).a [26] v3 (hE.grow hB4 hB4.size) (ints_new (ks := [26]) o3) (by omega) hl (by simp))
  have o4 := Ob.Obj.new v3 3 [.int .i64 28]
  obtain ⟨v4, hv4⟩ : ∃ v4, v3.alloc (.cells #[.int .i64 28] 3) = v4 := ⟨_, rfl⟩
  have hB5 : Below w.heap.size w v4 := by rw [← hv4]; exact hB4.alloc hB4.size _
  rw [show v3.alloc (.cells ([.int .i64 28] : List Value).toArray 3) = v4 from hv4] at o4
  have HN4 := Lib.hid (namedR_any hv (.slice (some ⟨v3.heap.size, 0, none⟩) 1 1) H i (ev H i).a [28] v4 (hE.grow hB5 hB5.size) (ints_new (ks := [28]) o4) (by omega) hl (by simp))
  have o5 := Ob.Obj.new v4 3 [.int .i64 8, .int .i64 27, .int .i64 28]
  obtain ⟨v5, hv5⟩ : ∃ v5, v4.alloc (.cells #[.int .i64 8, .int .i64 27, .int .i64 28] 3) = v5 := ⟨_, rfl⟩
  have hB6 : Below w.heap.size w v5 := by rw [← hv5]; exact hB5.alloc hB5.size _
  rw [show v4.alloc (.cells ([.int .i64 8, .int .i64 27, .int .i64 28] : List Value).toArray 3) = v5 from hv5] at o5
  have HN5 := Lib.hid (namedR_any hv (.slice (some ⟨v4.heap.size, 0, none⟩) 3 3) H i (ev H i).a [8, 27, 28] v5 (hE.grow hB6 hB6.size) (ints_new (ks := [8, 27, 28]) o5) (by omega) hl (by simp))
  have o6 := Ob.Obj.new v5 3 [.int .i64 29]
  obtain ⟨v6, hv6⟩ : ∃ v6, v5.alloc (.cells #[.int .i64 29] 3) = v6 := ⟨_, rfl⟩
  have hB7 : Below w.heap.size w v6 := by rw [← hv6]; exact hB6.alloc hB6.size _
  rw [show v5.alloc (.cells ([.int .i64 29] : List Value).toArray 3) = v6 from hv6] at o6
  have HN6 := Lib.hid (namedR_any hv (.slice (some ⟨v5.heap.size, 0, none⟩) 1 1) H i (ev H i).a [29] v6 (hE.grow hB7 hB7.size) (ints_new (ks := [29]) o6) (by omega) hl (by simp))
  have o7 := Ob.Obj.new v6 3 [.int .i64 12, .int .i64 13]
  obtain ⟨v7, hv7⟩ : ∃ v7, v6.alloc (.cells #[.int .i64 12, .int .i64 13] 3) = v7 := ⟨_, rfl⟩
  have hB8 : Below w.heap.size w v7 := by rw [← hv7]; exact hB7.alloc hB7.size _
  rw [show v6.alloc (.cells ([.int .i64 12, .int .i64 13] : List Value).toArray 3) = v7 from hv7] at o7
  have HN7 := Lib.hid (namedR_any hv (.slice (some ⟨v6.heap.size, 0, none⟩) 2 2) H i (ev H i).a [12, 13] v7 (hE.grow hB8 hB8.size) (ints_new (ks := [12, 13]) o7) (by omega) hl (by simp))
  have o8 := Ob.Obj.new v7 3 [.int .i64 12]
  obtain ⟨v8, hv8⟩ : ∃ v8, v7.alloc (.cells #[.int .i64 12] 3) = v8 := ⟨_, rfl⟩
  have hB9 : Below w.heap.size w v8 := by rw [← hv8]; exact hB8.alloc hB8.size _
  rw [show v7.alloc (.cells ([.int .i64 12] : List Value).toArray 3) = v8 from hv8] at o8
  have HN8 := Lib.hid (namedR_any hv (.slice (some ⟨v7.heap.size, 0, none⟩) 1 1) H i (ev H i).a [12] v8 (hE.grow hB9 hB9.size) (ints_new (ks := [12]) o8) (by omega) hl (by simp))
  have o9 := Ob.Obj.new v8 3 [.int .i64 14]
  obtain ⟨v9, hv9⟩ : ∃ v9, v8.alloc (.cells #[.int .i64 14] 3) = v9 := ⟨_, rfl⟩
  have hB10 : Below w.heap.size w v9 := by rw [← hv9]; exact hB9.alloc hB9.size _
  rw [show v8.alloc (.cells ([.int .i64 14] : List Value).toArray 3) = v9 from hv9] at o9
  have HN9 := Lib.hid (namedR_any hv (.slice (some ⟨v8.heap.size, 0, none⟩) 1 1) H i (ev H i).a [14] v9 (hE.grow hB10 hB10.size) (ints_new (ks := [14]) o9) (by omega) hl (by simp))
  have HV := Lib.hid (names_val H i)
  have hEL := hE.grow hB10 hB10.size
  obtain ⟨a, cap, b, off, rfl, ha, hc⟩ := hE
  obtain ⟨rfl, hbl⟩ := ha (by omega)
  have hAT := hc i hi
  rw [← ev_at hi] at hAT
  have ea := hAT 3 (by decide)
  have HAT9 := Lib.hid (hAT.below hB10 hbl)
  have HAT0 := Lib.hid (fun j (hj : j < H.length) => show AtE v9 b (off + j * 9) (ev H j) from by rw [ev_at hj]; exact (hc j hj).below hB10 hbl)
  have hi1 : (0 : Int) ≤ (i : Int) ∧ (i : Int) < (H.length : Int) := by omega
  have HB9 := Lib.hid hB10
  have hs9 := hB10.size
  have HIS := Lib.hid (fun (h : isB H i (ev H i).a 4 = true) => show 1 ≤ (ev H i).a ∧ (ev H i).a ≤ (i : Int) from by
    unfold isB at h; simp at h; omega)
  have ek := HAT9.out 2 (by decide)
  have et := HAT9.out 1 (by decide)
  have ea9 := HAT9.out 3 (by decide)
  clear o0 o1 o2 o3 o4 o5 o6 o7 o8 o9 hB0 hB1 hB2 hB3 hB4 hB5 hB6 hB7 hB8 hB9 hB10 hAT hc ha hEL
  generalize ev H i = x at *
  obtain ⟨xi, xt, xk, xa, xb, xc, xd, xe, xf⟩ := x
  unfold evC at ea ek et ea9
  simp only [List.getElem?_cons_zero, List.getElem?_cons_succ, Nat.add_zero] at ea ek et ea9
  simp only at *
  generalize namesB H i = nm at *
  generalize isB H i xa 3 = i3 at *
  generalize isB H i xa 4 = i4 at *
  generalize isB H i xa 5 = i5 at *
  generalize isB H i xa 9 = i9 at *
  generalize isB H i xa 21 = i21 at *
  generalize namedB H i xa [6, 22, 23, 24] = n0 at *
  generalize namedB H i xa [7, 25] = n1 at *
  generalize namedB H i xa [26, 27] = n2 at *
  generalize namedB H i xa [26] = n3 at *
  generalize namedB H i xa [28] = n4 at *
  generalize namedB H i xa [8, 27, 28] = n5 at *
  generalize namedB H i xa [29] = n6 at *
  generalize namedB H i xa [12, 13] = n7 at *
  generalize namedB H i xa [12] = n8 at *
  generalize namedB H i xa [14] = n9 at *
  go_enter Try.func28, Try.ntmps28
  go_upto_region 18 with (first
    | (go_at_call 41; (with_reducible refine HI3.out.mono ?_); rintro e z3 ⟨rfl, rfl⟩)
    | (go_at_call 41; (with_reducible refine HI4.out.mono ?_); rintro e z4 ⟨rfl, rfl⟩)
    | (go_at_call 41; (with_reducible refine HI5.out.mono ?_); rintro e z5 ⟨rfl, rfl⟩)
    | (go_at_call 41; (with_reducible refine HI9.out.mono ?_); rintro e z9 ⟨rfl, rfl⟩)
    | (go_at_call 41; (with_reducible refine HI21.out.mono ?_); rintro e z21 ⟨rfl, rfl⟩)
    | (go_at_call 21; (with_reducible refine HN0.out.mono ?_); rintro e y0 ⟨rfl, rfl⟩)
    | (go_at_call 21; (with_reducible refine HN1.out.mono ?_); rintro e y1 ⟨rfl, rfl⟩)
    | (go_at_call 21; (with_reducible refine HN2.out.mono ?_); rintro e y2 ⟨rfl, rfl⟩)
    | (go_at_call 21; (with_reducible refine HN3.out.mono ?_); rintro e y3 ⟨rfl, rfl⟩)
    | (go_at_call 21; (with_reducible refine HN4.out.mono ?_); rintro e y4 ⟨rfl, rfl⟩)
    | (go_at_call 21; (with_reducible refine HN5.out.mono ?_); rintro e y5 ⟨rfl, rfl⟩)
    | (go_at_call 21; (with_reducible refine HN6.out.mono ?_); rintro e y6 ⟨rfl, rfl⟩)
    | (go_at_call 21; (with_reducible refine HN7.out.mono ?_); rintro e y7 ⟨rfl, rfl⟩)
    | (go_at_call 21; (with_reducible refine HN8.out.mono ?_); rintro e y8 ⟨rfl, rfl⟩)
    | (go_at_call 21; (with_reducible refine HN9.out.mono ?_); rintro e y9 ⟨rfl, rfl⟩))
  clear HI3 HI4 HI5 HI9 HI21 HN0 HN1 HN2 HN3 HN4 HN5 HN6 HN7 HN8 HN9
  by_cases hk6 : xk = 6
  · subst hk6
    have HV2 := Lib.hid (show nm = (i3 && !n0) by rw [HV.out]; rfl)
    clear HV HIS HAT0 HAT9
    cases i3 <;> cases n0
    all_goals
      go_wp2_with fail
      go_ret
      exact ⟨by rw [HV2.out]; rfl, HB9.out⟩
  by_cases hk22 : xk = 22
  · subst hk22
    have HV2 := Lib.hid (show nm = (i3 && !n0) by rw [HV.out]; rfl)
    clear HV HIS HAT0 HAT9
    cases i3 <;> cases n0
    all_goals
      go_wp2_with fail
      go_ret
      exact ⟨by rw [HV2.out]; rfl, HB9.out⟩
  by_cases hk23 : xk = 23
  · subst hk23
    have HV2 := Lib.hid (show nm = (i3 && !n0) by rw [HV.out]; rfl)
    clear HV HIS HAT0 HAT9
    cases i3 <;> cases n0
    all_goals
      go_wp2_with fail
      go_ret
      exact ⟨by rw [HV2.out]; rfl, HB9.out⟩
  by_cases hk24 : xk = 24
  · subst hk24
    have HV2 := Lib.hid (show nm = (i3 && !n0) by rw [HV.out]; rfl)
    clear HV HIS HAT0 HAT9
    cases i3 <;> cases n0
    all_goals
      go_wp2_with fail
      go_ret
      exact ⟨by rw [HV2.out]; rfl, HB9.out⟩
  by_cases hk7 : xk = 7
  · subst hk7
    have HV2 := Lib.hid (show nm = (i4 && !n1) by rw [HV.out]; rfl)
    clear HV HIS HAT0 HAT9
    cases i4 <;> cases n1
    all_goals
      go_wp2_with fail
      go_ret
      exact ⟨by rw [HV2.out]; rfl, HB9.out⟩
  by_cases hk26 : xk = 26
  · subst hk26
    have HV2 := Lib.hid (show nm = (i5 && !n2) by rw [HV.out]; rfl)
    clear HV HIS HAT0 HAT9
    cases i5 <;> cases n2
    all_goals
      go_wp2_with fail
      go_ret
      exact ⟨by rw [HV2.out]; rfl, HB9.out⟩
  by_cases hk27 : xk = 27
  · subst hk27
    have HV2 := Lib.hid (show nm = (i5 && !n2) by rw [HV.out]; rfl)
    clear HV HIS HAT0 HAT9
    cases i5 <;> cases n2
    all_goals
      go_wp2_with fail
      go_ret
      exact ⟨by rw [HV2.out]; rfl, HB9.out⟩
  by_cases hk28 : xk = 28
  · subst hk28
    have HV2 := Lib.hid (show nm = (i5 && n3 && !n4) by rw [HV.out]; rfl)
    clear HV HIS HAT0 HAT9
    cases i5 <;> cases n3 <;> cases n4
    all_goals
      go_wp2_with fail
      go_ret
      exact ⟨by rw [HV2.out]; rfl, HB9.out⟩
  by_cases hk8 : xk = 8
  · subst hk8
    have HV2 := Lib.hid (show nm = (i5 && !n5) by rw [HV.out]; rfl)
    clear HV HIS HAT0 HAT9
    cases i5 <;> cases n5
    all_goals
      go_wp2_with fail
      go_ret
      exact ⟨by rw [HV2.out]; rfl, HB9.out⟩
  by_cases hk9 : xk = 9
  · subst hk9
    have HV2 := Lib.hid (show nm = (i5) by rw [HV.out]; rfl)
    clear HV HIS HAT0 HAT9
    cases i5
    all_goals
      go_wp2_with fail
      go_ret
      exact ⟨by rw [HV2.out]; rfl, HB9.out⟩
  by_cases hk29 : xk = 29
  · subst hk29
    have HV2 := Lib.hid (show nm = (i9 && !n6) by rw [HV.out]; rfl)
    clear HV HIS HAT0 HAT9
    cases i9 <;> cases n6
    all_goals
      go_wp2_with fail
      go_ret
      exact ⟨by rw [HV2.out]; rfl, HB9.out⟩
  by_cases hk12 : xk = 12
  · subst hk12
    have HV2 := Lib.hid (show nm = (i21 && !n7) by rw [HV.out]; rfl)
    clear HV HIS HAT0 HAT9
    cases i21 <;> cases n7
    all_goals
      go_wp2_with fail
      go_ret
      exact ⟨by rw [HV2.out]; rfl, HB9.out⟩
  by_cases hk13 : xk = 13
  · subst hk13
    have HV2 := Lib.hid (show nm = (i21 && !n7) by rw [HV.out]; rfl)
    clear HV HIS HAT0 HAT9
    cases i21 <;> cases n7
    all_goals
      go_wp2_with fail
      go_ret
      exact ⟨by rw [HV2.out]; rfl, HB9.out⟩
  by_cases hk14 : xk = 14
  · subst hk14
    have HV2 := Lib.hid (show nm = (i21 && n8 && !n9) by rw [HV.out]; rfl)
    clear HV HIS HAT0 HAT9
    cases i21 <;> cases n8 <;> cases n9
    all_goals
      go_wp2_with fail
      go_ret
      exact ⟨by rw [HV2.out]; rfl, HB9.out⟩
  by_cases hk25 : xk = 25
  · subst hk25
    generalize hj : (xa - 1).toNat = j at *
    generalize htm : decide ((ev H j).a ≤ xt) = tm at *
    have HV2 := Lib.hid (show nm = (i4 && !n1 && tm) by rw [HV.out]; rfl)
    clear HV
    cases i4 with
    | false =>
      clear HIS HAT0 HAT9
      go_wp2_with fail
      go_big_quiet (fail)
      go_wp2_with fail
      go_ret
      exact ⟨by rw [HV2.out]; rfl, by first | exact HB9.out | exact belowN HB9.out _⟩
    | true =>
      cases n1 with
      | true =>
        clear HIS HAT0 HAT9
        go_wp2_with fail
        go_big_quiet (fail)
        go_wp2_with fail
        go_ret
        exact ⟨by rw [HV2.out]; rfl, by first | exact HB9.out | exact belowN HB9.out _⟩
      | false =>
        have hid := HIS.out rfl
        obtain ⟨q, rfl⟩ : ∃ q : Nat, xa = (q : Int) + 1 := ⟨(xa - 1).toNat, by omega⟩
        obtain rfl : j = q := by omega
        have hq : j < H.length := by omega
        have hw : IntKind.i64.wrap ((j : Int) + 1 - 1) = (j : Int) := by rw [IntKind.wrap_i64]; omega
        have hi2 : (0 : Int) ≤ (j : Int) ∧ (j : Int) < (H.length : Int) := by omega
        have ej := HAT0.out j hq 3 (by decide)
        clear HIS HAT0 HAT9 hid hj
        generalize ev H j = y at *
        obtain ⟨yi, yt, yk, ya, yb, yc, yd, ye, yf⟩ := y
        unfold evC at ej
        simp only [List.getElem?_cons_zero, List.getElem?_cons_succ, Nat.add_zero] at ej
        simp only at htm
        subst htm
        go_wp2_with fail
        go_big_quiet (fail)
        go_wp2_with fail
        go_ret
        exact ⟨by rw [HV2.out]; first | rfl | (simp; done), by first | exact HB9.out | exact belowN HB9.out _⟩
  have HV2 := Lib.hid (show nm = true from by rw [HV.out]; unfold nmV; simp [hk6, hk22, hk23, hk24, hk7, hk26, hk27, hk28, hk8, hk9, hk29, hk12, hk13, hk14, hk25])
  have q6 : (xk == 6) = false := by simpa using hk6
  have q22 : (xk == 22) = false := by simpa using hk22
  have q23 : (xk == 23) = false := by simpa using hk23
  have q24 : (xk == 24) = false := by simpa using hk24
  have q7 : (xk == 7) = false := by simpa using hk7
  have q26 : (xk == 26) = false := by simpa using hk26
  have q27 : (xk == 27) = false := by simpa using hk27
  have q28 : (xk == 28) = false := by simpa using hk28
  have q8 : (xk == 8) = false := by simpa using hk8
  have q9 : (xk == 9) = false := by simpa using hk9
  have q29 : (xk == 29) = false := by simpa using hk29
  have q12 : (xk == 12) = false := by simpa using hk12
  have q13 : (xk == 13) = false := by simpa using hk13
  have q14 : (xk == 14) = false := by simpa using hk14
  have q25 : (xk == 25) = false := by simpa using hk25
  clear HV HIS HAT0 HAT9 hk6 hk22 hk23 hk24 hk7 hk26 hk27 hk28 hk8 hk9 hk29 hk12 hk13 hk14 hk25
  go_wp2_with fail
  go_ret
  exact ⟨by rw [HV2.out]; rfl, HB9.out⟩

end Gr
end Go.Proofs.Ytdaafledkloegaa

/-
  The program's small calls of chapter 14: within, natural, Fields, Command, Closing, numbers.
-/
namespace Go.Proofs.Ytdaafledkloegaa
open Go.RowKit
set_option linter.unusedSimpArgs false
set_option linter.unusedVariables false
namespace Ev

def win (n lo hi : Int) : Bool := decide (lo ≤ n) && decide (n ≤ hi)
theorem nat_in {L : List Int} {q : Nat} (hq : q < L.length) (h : L[q] < 0) : L.all (fun x => decide (0 ≤ x)) = false := by
  cases ha : L.all (fun x => decide (0 ≤ x)) with
  | false => rfl
  | true =>
    have := List.all_eq_true.1 ha L[q] (List.getElem_mem hq)
    simp at this
    omega
theorem nat_all {L : List Int} (h : ∀ q (hq : q < L.length), ¬ L[q] < 0) : L.all (fun x => decide (0 ≤ x)) = true := by
  rw [List.all_eq_true]
  intro x hx
  obtain ⟨q, hq, rfl⟩ := List.getElem_of_mem hx
  have := h q hq
  simp; omega

set_option maxRecDepth 100000 in
set_option maxHeartbeats 4000000 in
theorem within_any (n lo hi : Int) (w : World) :
    Calls Try.prog 44 #[.int .i64 n, .int .i64 lo, .int .i64 hi] w fun e w' => e = .returned (.bool (win n lo hi)) ∧ w = w' := by
  by_cases h1 : lo ≤ n
  · by_cases h2 : n ≤ hi
    · have HR := Lib.hid (show win n lo hi = true by unfold win; simp [h1, h2])
      go_enter Try.func44, Try.ntmps44
      go_wp2_with fail
      go_ret
      exact ⟨by rw [HR.out]; rfl, rfl⟩
    · have HR := Lib.hid (show win n lo hi = false by unfold win; simp; omega)
      have h2b : decide (n ≤ hi) = false := by simpa using h2
      go_enter Try.func44, Try.ntmps44
      go_wp2_with fail
      go_ret
      exact ⟨by rw [HR.out]; rfl, rfl⟩
  · have HR := Lib.hid (show win n lo hi = false by unfold win; simp; omega)
    have h1b : decide (lo ≤ n) = false := by simpa using h1
    go_enter Try.func44, Try.ntmps44
    go_wp2_with fail
    go_ret
    exact ⟨by rw [HR.out]; rfl, rfl⟩

set_option maxRecDepth 100000 in
set_option maxHeartbeats 4000000 in
theorem natural_any (b : Nat) (L : List Int) (n : Nat) (w : World) (hn : n = L.length) (hO : Ob.Obj w b 2 (L.map fun x => .int .i64 x)) (hL : L.length ≤ 100) :
    Calls Try.prog 51 #[.slice (some ⟨b, 0, none⟩) n n] w fun e w' => e = .returned (.bool (L.all fun x => decide (0 ≤ x))) ∧ w = w' := by
  subst hn
  have HC := Lib.hid (fun q (hq : q < L.length) => show w.cell? ⟨b, q, none⟩ = some (.int .i64 L[q]) by rw [hO.cell q]; simp [hq])
  have hbl := hO.lt
  clear hO
  go_enter Try.func51, Try.ntmps51
  go_wp2_with fail
  go_loopw [7] (fun i wr => ∃ q : Nat, q ≤ L.length ∧ i = .int .i64 (q : Int) ∧ Hid (∀ j (hj : j < L.length), j < q → ¬ L[j] < 0) ∧ w = wr) (fun i _ => L.length - (intOf i).toNat)
  case atStart => exact ⟨0, Nat.zero_le _, rfl, (fun j hj h => absurd h (by omega)), rfl⟩
  case round =>
    obtain ⟨q, hq, rfl, hno, rfl⟩ := hrel
    by_cases hlt : q < L.length
    · have c0 := HC.out q hlt
      have hi1 : (0 : Int) ≤ (q : Int) ∧ (q : Int) < (L.length : Int) := by omega
      have HIN := Lib.hid (fun h => nat_in hlt h)
      have HNO := Lib.hid (fun (h : ¬ L[q] < 0) => show ∀ j (hj : j < L.length), j < q + 1 → ¬ L[j] < 0 from fun j hj h2 => if e : j = q then (by subst e; exact h) else hno.out j hj (by omega))
      clear hno HC
      generalize L[q] = x at *
      by_cases hx : x < 0
      · have HI := Lib.hid (HIN.out hx)
        clear HIN HNO
        go_wp2_with fail
        go_ret
        exact ⟨by rw [HI.out]; rfl, rfl⟩
      · have HN2 := Lib.hid (HNO.out hx)
        clear HIN HNO
        go_wp2_with fail
        go_roundw
        case rel => exact ⟨q + 1, by omega, by go_num, HN2, by trivial⟩
        case measure => simp [intOf]; omega
    · obtain rfl : q = L.length := by omega
      have HO := Lib.hid (nat_all (L := L) (fun j hj => hno.out j hj hj))
      clear hno
      go_wp2_with fail
      go_ret
      exact ⟨by rw [HO.out]; rfl, rfl⟩

set_option maxRecDepth 100000 in
set_option maxHeartbeats 16000000 in
theorem fields_any (k : Int) (w : World) :
    Calls Try.prog 45 #[.int .i64 k] w fun e w' => e = .returned (.int .i64 (fields k)) ∧ w = w' := by
  by_cases h : 1 ≤ k ∧ k ≤ 31
  · replace h : k = 1 ∨ k = 2 ∨ k = 3 ∨ k = 4 ∨ k = 5 ∨ k = 6 ∨ k = 7 ∨ k = 8 ∨ k = 9 ∨ k = 10 ∨ k = 11 ∨ k = 12 ∨ k = 13 ∨ k = 14 ∨ k = 15 ∨ k = 16 ∨ k = 17 ∨ k = 18 ∨ k = 19 ∨ k = 20 ∨ k = 21 ∨ k = 22 ∨ k = 23 ∨ k = 24 ∨ k = 25 ∨ k = 26 ∨ k = 27 ∨ k = 28 ∨ k = 29 ∨ k = 30 ∨ k = 31 := by omega
    rcases h with rfl | rfl | rfl | rfl | rfl | rfl | rfl | rfl | rfl | rfl | rfl | rfl | rfl | rfl | rfl | rfl | rfl | rfl | rfl | rfl | rfl | rfl | rfl | rfl | rfl | rfl | rfl | rfl | rfl | rfl | rfl
    all_goals
      go_enter Try.func45, Try.ntmps45
      go_wp2_with fail
      go_ret
      exact ⟨rfl, rfl⟩
  · have HK := Lib.hid (show (Value.int .i64 (fields k)) = .int .i64 (-1) by unfold fields; rw [if_pos (by omega)])
    have q1 : (k == 1) = false := by simp; omega
    have q2 : (k == 2) = false := by simp; omega
    have q3 : (k == 3) = false := by simp; omega
    have q4 : (k == 4) = false := by simp; omega
    have q5 : (k == 5) = false := by simp; omega
    have q6 : (k == 6) = false := by simp; omega
    have q7 : (k == 7) = false := by simp; omega
    have q8 : (k == 8) = false := by simp; omega
    have q9 : (k == 9) = false := by simp; omega
    have q10 : (k == 10) = false := by simp; omega
    have q11 : (k == 11) = false := by simp; omega
    have q12 : (k == 12) = false := by simp; omega
    have q13 : (k == 13) = false := by simp; omega
    have q14 : (k == 14) = false := by simp; omega
    have q15 : (k == 15) = false := by simp; omega
    have q16 : (k == 16) = false := by simp; omega
    have q17 : (k == 17) = false := by simp; omega
    have q18 : (k == 18) = false := by simp; omega
    have q19 : (k == 19) = false := by simp; omega
    have q20 : (k == 20) = false := by simp; omega
    have q21 : (k == 21) = false := by simp; omega
    have q22 : (k == 22) = false := by simp; omega
    have q23 : (k == 23) = false := by simp; omega
    have q24 : (k == 24) = false := by simp; omega
    have q25 : (k == 25) = false := by simp; omega
    have q26 : (k == 26) = false := by simp; omega
    have q27 : (k == 27) = false := by simp; omega
    have q28 : (k == 28) = false := by simp; omega
    have q29 : (k == 29) = false := by simp; omega
    have q30 : (k == 30) = false := by simp; omega
    have q31 : (k == 31) = false := by simp; omega
    clear h
    go_enter Try.func45, Try.ntmps45
    go_wp2_with fail
    go_ret
    exact ⟨by rw [HK.out]; rfl, rfl⟩

set_option maxRecDepth 100000 in
set_option maxHeartbeats 16000000 in
theorem closing_any (k : Int) (w : World) :
    Calls Try.prog 34 #[.int .i64 k] w fun e w' => e = .returned (.bool (closing k)) ∧ w = w' := by
  by_cases h : 1 ≤ k ∧ k ≤ 31
  · replace h : k = 1 ∨ k = 2 ∨ k = 3 ∨ k = 4 ∨ k = 5 ∨ k = 6 ∨ k = 7 ∨ k = 8 ∨ k = 9 ∨ k = 10 ∨ k = 11 ∨ k = 12 ∨ k = 13 ∨ k = 14 ∨ k = 15 ∨ k = 16 ∨ k = 17 ∨ k = 18 ∨ k = 19 ∨ k = 20 ∨ k = 21 ∨ k = 22 ∨ k = 23 ∨ k = 24 ∨ k = 25 ∨ k = 26 ∨ k = 27 ∨ k = 28 ∨ k = 29 ∨ k = 30 ∨ k = 31 := by omega
    rcases h with rfl | rfl | rfl | rfl | rfl | rfl | rfl | rfl | rfl | rfl | rfl | rfl | rfl | rfl | rfl | rfl | rfl | rfl | rfl | rfl | rfl | rfl | rfl | rfl | rfl | rfl | rfl | rfl | rfl | rfl | rfl
    all_goals
      go_enter Try.func34, Try.ntmps34
      go_wp2_with fail
      go_ret
      exact ⟨rfl, rfl⟩
  · have HK := Lib.hid (show Value.bool (closing k) = .bool false by unfold closing; simp; omega)
    have q1 : (k == 1) = false := by simp; omega
    have q2 : (k == 2) = false := by simp; omega
    have q3 : (k == 3) = false := by simp; omega
    have q4 : (k == 4) = false := by simp; omega
    have q5 : (k == 5) = false := by simp; omega
    have q6 : (k == 6) = false := by simp; omega
    have q7 : (k == 7) = false := by simp; omega
    have q8 : (k == 8) = false := by simp; omega
    have q9 : (k == 9) = false := by simp; omega
    have q10 : (k == 10) = false := by simp; omega
    have q11 : (k == 11) = false := by simp; omega
    have q12 : (k == 12) = false := by simp; omega
    have q13 : (k == 13) = false := by simp; omega
    have q14 : (k == 14) = false := by simp; omega
    have q15 : (k == 15) = false := by simp; omega
    have q16 : (k == 16) = false := by simp; omega
    have q17 : (k == 17) = false := by simp; omega
    have q18 : (k == 18) = false := by simp; omega
    have q19 : (k == 19) = false := by simp; omega
    have q20 : (k == 20) = false := by simp; omega
    have q21 : (k == 21) = false := by simp; omega
    have q22 : (k == 22) = false := by simp; omega
    have q23 : (k == 23) = false := by simp; omega
    have q24 : (k == 24) = false := by simp; omega
    have q25 : (k == 25) = false := by simp; omega
    have q26 : (k == 26) = false := by simp; omega
    have q27 : (k == 27) = false := by simp; omega
    have q28 : (k == 28) = false := by simp; omega
    have q29 : (k == 29) = false := by simp; omega
    have q30 : (k == 30) = false := by simp; omega
    have q31 : (k == 31) = false := by simp; omega
    clear h
    go_enter Try.func34, Try.ntmps34
    go_wp2_with fail
    go_ret
    exact ⟨by rw [HK.out]; rfl, rfl⟩

set_option maxRecDepth 100000 in
set_option maxHeartbeats 4000000 in
theorem command_any (k : Int) (w : World) :
    Calls Try.prog 48 #[.int .i64 k] w fun e w' => e = .returned (.bool (command k)) ∧ w = w' := by
  go_enter Try.func48, Try.ntmps48
  go_wp2_with fail
  all_goals go_ret
  all_goals refine ⟨congrArg (fun b => Ending.returned (.bool b)) ?_, rfl⟩
  all_goals (unfold command; first | (rw [Bool.eq_iff_iff]; simp; omega) | (simp_all; done) | (simp_all; omega))

/-- where the numbers of an event lie -/
def ptrC (b : Nat) : List Value := [.pointer (some ⟨b, 3, none⟩), .pointer (some ⟨b, 4, none⟩), .pointer (some ⟨b, 5, none⟩), .pointer (some ⟨b, 6, none⟩), .pointer (some ⟨b, 7, none⟩), .pointer (some ⟨b, 8, none⟩)]

set_option maxRecDepth 100000 in
set_option maxHeartbeats 8000000 in
theorem numbers_any (b : Nat) (w : World) :
    Calls Try.prog 50 #[.pointer (some ⟨b, 0, none⟩)] w fun e w' => e = .returned (.agg (ptrC b).toArray) ∧ Below w.heap.size w w' := by
  have oR := Ob.Obj.new w 71 [.pointer none, .pointer none, .pointer none, .pointer none, .pointer none, .pointer none]
  obtain ⟨wa, hwa⟩ : ∃ wa, w.alloc (.cells #[.pointer none, .pointer none, .pointer none, .pointer none, .pointer none, .pointer none] 71) = wa := ⟨_, rfl⟩
  have hB : Below w.heap.size w wa := by rw [← hwa]; exact (Below.refl _ _).alloc (Nat.le_refl _) _
  rw [show w.alloc (.cells ([.pointer none, .pointer none, .pointer none, .pointer none, .pointer none, .pointer none] : List Value).toArray 71) = wa from hwa] at oR
  have c0 := oR.cell 0
  have c1 := oR.cell 1
  have c2 := oR.cell 2
  have c3 := oR.cell 3
  have c4 := oR.cell 4
  have c5 := oR.cell 5
  have f0 := oR.frozen 0
  have f1 := oR.frozen 1
  have f2 := oR.frozen 2
  have f3 := oR.frozen 3
  have f4 := oR.frozen 4
  have f5 := oR.frozen 5
  have hz := oR.lt
  simp at c0 c1 c2 c3 c4 c5
  clear oR
  go_enter Try.func50, Try.ntmps50
  go_wp2_with fail
  go_big_region
  all_goals (try go_wp2_with fail)
  all_goals refine bodyPost_ret (v := .agg #[.pointer (some ⟨b, 3, none⟩), .pointer (some ⟨b, 4, none⟩), .pointer (some ⟨b, 5, none⟩), .pointer (some ⟨b, 6, none⟩), .pointer (some ⟨b, 7, none⟩), .pointer (some ⟨b, 8, none⟩)]) (by simp [results, Try.results50, go_sem, c0, c1, c2, c3, c4, c5, hz]) rfl ?_
  all_goals exact ⟨rfl, ((((((hB.setCell (p := ⟨w.heap.size, 0, none⟩) (Nat.le_refl _) _).setCell (p := ⟨w.heap.size, 1, none⟩) (Nat.le_refl _) _).setCell (p := ⟨w.heap.size, 2, none⟩) (Nat.le_refl _) _).setCell (p := ⟨w.heap.size, 3, none⟩) (Nat.le_refl _) _).setCell (p := ⟨w.heap.size, 4, none⟩) (Nat.le_refl _) _).setCell (p := ⟨w.heap.size, 5, none⟩) (Nat.le_refl _) _).drew⟩

end Ev
end Go.Proofs.Ytdaafledkloegaa

/-
  The program's event.Of (P14.5): the iterator; slices.Clone, Index, Contains of kinds.
-/
namespace Go.Proofs.Ytdaafledkloegaa
open Go.RowKit Go.Shelf
set_option linter.unusedSimpArgs false
set_option linter.unusedVariables false
theorem info_inte : (Try.prog.info? 3).map (fun i => (i.zero, i.size, i.bytes)) = some (some (.int .i64 0), 1, 8) := by kernel_rfl
namespace Ev
attribute [local go_sem] Oper.semAt_some
theorem iC_one (L : List Int) : ∀ v ∈ iC L, v.oneCell' = true := fun v hv => by
  obtain ⟨x, _, rfl⟩ := List.mem_map.1 hv
  rfl
theorem ints_of_own {W : World} {B : Nat} {te : TypeId} {v : Value} {L : List Int} (h : W.ownsRow B te 1 v L.length (iC L)) : Fi.Ints W.heap.size W v L := by
  obtain ⟨a, cap, b, rfl, _, _, h3⟩ := Gn.row_at h
  refine ⟨a, cap, b, 0, rfl, fun h => ⟨(h3 h).1, (h3 h).2.2.1⟩, fun j hj => ?_⟩
  obtain ⟨_, _, _, hc⟩ := h3 (by omega)
  rw [show 0 + j = j by omega, hc j (by omega)]
  simp [iC, hj]

set_option maxRecDepth 100000 in
set_option maxHeartbeats 4000000 in
theorem cloneI_any (v : Value) (L : List Int) (w : World) (hV : Fi.Ints w.heap.size w v L) (hL : L.length ≤ 8388608) :
    Calls Try.prog 29 #[v] w fun e w' => ∃ r, e = .returned r ∧ w'.ownsRow w.heap.size 3 1 r L.length (iC L) ∧ Below w.heap.size w w' := by
  obtain ⟨i0, hi0, hz0, hz1, hz2⟩ := info_parts info_inte
  obtain ⟨a, cap, fb, fo, rfl, ha, hc⟩ := hV
  cases a with
  | none =>
    have h0 : L = [] := by
      apply List.eq_nil_of_length_eq_zero
      apply Nat.eq_zero_of_not_pos
      intro h
      have := (ha h).1
      cases this
    subst h0
    have hq := fun (W : World) => Lib.run_eql_slice_nil (P := Try.prog) W 31 3 none 0 cap 0 0 Try.underlying31
    go_enter Try.func29, Try.ntmps29
    go_wp2_with fail
    go_ret
    exact ⟨_, rfl, World.ownsRow_nil _ _ _ _, Below.refl _ _⟩
  | some ad =>
    have HSR := Lib.hid (show ∀ j v, (iC L)[j]? = some v → (w.alloc (.cells #[] 3)).cell? (ad.add j) = some v from fun j v hj => by
      have hjl : j < L.length := by
        have := (List.getElem?_eq_some_iff.1 hj).1
        simpa [iC] using this
      obtain ⟨h2, h3⟩ := ha (by omega)
      injection h2 with h2
      subst h2
      have h1 := hc j hjl
      have h4 : v = .int .i64 L[j] := by
        simp [iC, hjl] at hj
        exact hj.symm
      subst h4
      have := ((Below.refl w.heap.size w).alloc (Nat.le_refl _) (.cells #[] 3)).cell (p := (⟨fb, fo + j, none⟩ : Addr)) h3
      rw [Gn.add_of]
      exact this.trans h1)
    have hown : (w.alloc (.cells #[] 3)).ownsRow w.heap.size 3 1 (.slice (some ⟨w.heap.size, 0, none⟩) 0 0) 0 [] := ⟨by simp, .inr ⟨w.heap.size, 0, #[], rfl, Nat.le_refl _, World.alloc_heap_new w _, Nat.le_refl _, Nat.zero_le _, rfl, rfl⟩⟩
    have HOW := Lib.hid hown
    have hn1 : 0 + L.length ≤ maxLen := by unfold maxLen; omega
    have hn2 : (0 + L.length) * 8 ≤ 140737488355328 := by omega
    have hn3 : w.heap.size ≤ (w.alloc (.cells #[] 3)).heap.size := by simp
    have HLT := Lib.hid (show (iC L).length = L.length * 1 by simp [iC])
    have HB := Lib.hid ((Below.refl w.heap.size w).alloc (Nat.le_refl _) (.cells #[] 3))
    clear ha hc hown
    have hq := fun (W : World) => Lib.run_eql_slice_nil (P := Try.prog) W 31 3 (some ad) L.length cap 0 0 Try.underlying31
    go_enter Try.func29, Try.ntmps29
    go_wp2_with (at_builtin; refine wpList_append_own _ rfl _ _ 31 rfl w.heap.size 3 i0 (.int .i64 0) 1 8 Try.underlying31 hi0 hz0 hz1 hz2 rfl (by decide) _ 0 [] rfl HOW.out ad L.length _ (iC L) rfl HLT.out HSR.out (iC_one _) hn1 hn2 hn3 ?_; intro v4 w4 hown4 hgrow4 _; have HB4 := Lib.hid (HB.out.grown hgrow4 hn3 (fun k hk => by have := (Ob.row_lt HOW.out hk).1; omega)); have HO4 := Lib.hid hown4; clear hown4 hgrow4)
    go_ret
    refine ⟨_, rfl, ?_, HB4.out⟩
    have h := HO4.out
    rw [Nat.zero_add, List.nil_append] at h
    exact h
/-- what Index tells -/
def IdxOut (ks : List Int) (k : Int) (w : World) (e : Ending) (w' : World) : Prop := ∃ j : Int, e = .returned (.int .i64 j) ∧ decide (0 ≤ j) = ks.contains k ∧ w = w'
theorem contains_at {ks : List Int} {k : Int} {q : Nat} (hq : q < ks.length) (h : ks[q] = k) : ks.contains k = true := List.contains_iff_mem.2 (h ▸ List.getElem_mem hq)
theorem contains_none {ks : List Int} {k : Int} (h : ∀ q (hq : q < ks.length), ks[q] ≠ k) : ks.contains k = false := by
  cases hc : ks.contains k with
  | false => rfl
  | true =>
    obtain ⟨q, hq, e⟩ := List.getElem_of_mem (List.contains_iff_mem.1 hc)
    exact absurd e (h q hq)

set_option maxRecDepth 100000 in
set_option maxHeartbeats 4000000 in
theorem indexI_any {B : Nat} (v : Value) (ks : List Int) (k : Int) (w : World) (h : Fi.Ints B w v ks) (hl : ks.length ≤ 1073741824) :
    Calls Try.prog 42 #[v, .int .i64 k] w (IdxOut ks k w) := by
  obtain ⟨a, cap, b, off, rfl, ha, hc⟩ := h
  have HA := Lib.hid ha
  have HC := Lib.hid hc
  clear ha hc
  go_enter Try.func42, Try.ntmps42
  go_wp2_with fail
  go_loopw [8] (fun i wr => ∃ q : Nat, q ≤ ks.length ∧ i = .int .i64 (q : Int) ∧ Hid (∀ j (hj : j < ks.length), j < q → ks[j] ≠ k) ∧ w = wr) (fun i _ => ks.length - (intOf i).toNat)
  case atStart => exact ⟨0, Nat.zero_le _, rfl, (fun j hj h => absurd h (by omega)), rfl⟩
  case round =>
    obtain ⟨q, hq, rfl, hno, rfl⟩ := hrel
    by_cases hlt : q < ks.length
    · obtain ⟨rfl, _⟩ := HA.out (by omega)
      have c0 := HC.out q hlt
      have hi1 : (0 : Int) ≤ (q : Int) ∧ (q : Int) < (ks.length : Int) := by omega
      have HIN := Lib.hid (fun h => contains_at (k := k) hlt h)
      have HNO := Lib.hid (fun (h : ks[q] ≠ k) => show ∀ j (hj : j < ks.length), j < q + 1 → ks[j] ≠ k from fun j hj h2 => if e : j = q then (by subst e; exact h) else hno.out j hj (by omega))
      clear hno HC HA
      generalize ks[q] = x at *
      by_cases hxk : x = k
      · subst hxk
        have HI := Lib.hid (HIN.out rfl)
        clear HIN HNO
        go_wp2_with fail
        go_ret
        exact ⟨(q : Int), rfl, by rw [HI.out]; simp; try omega, rfl⟩
      · have hxb : (k == x) = false := by simpa using fun h => hxk h.symm
        have HN2 := Lib.hid (HNO.out hxk)
        clear HIN HNO hxk
        go_wp2_with fail
        go_roundw
        case rel => exact ⟨q + 1, by omega, by go_num, HN2, by trivial⟩
        case measure => simp [intOf]; omega
    · obtain rfl : q = ks.length := by omega
      have HO := Lib.hid (contains_none (ks := ks) (k := k) (fun j hj => hno.out j hj hj))
      clear hno
      go_wp2_with fail
      go_ret
      exact ⟨-1, rfl, by rw [HO.out]; rfl, rfl⟩

set_option maxRecDepth 100000 in
set_option maxHeartbeats 4000000 in
theorem containsI_any {B : Nat} (v : Value) (ks : List Int) (k : Int) (w : World) (h : Fi.Ints B w v ks) (hl : ks.length ≤ 1073741824) :
    Calls Try.prog 31 #[v, .int .i64 k] w fun e w' => e = .returned (.bool (ks.contains k)) ∧ w = w' := by
  have HI := Lib.hid (indexI_any v ks k w h hl)
  unfold IdxOut at HI
  generalize ks.contains k = cb at *
  go_enter Try.func31, Try.ntmps31
  go_wp2_with (go_at_call 42; (with_reducible refine HI.out.mono ?_); rintro e w1 ⟨j, rfl, hj, rfl⟩)
  all_goals go_ret
  all_goals exact ⟨by rw [← hj]; rfl, rfl⟩

/-- the events of some kinds, each with its place: of the first n -/
def wkN (L : List Evt) (ks : List Int) : Nat → List (Nat × Evt)
  | 0 => []
  | n + 1 => wkN L ks n ++ (match L[n]? with | some x => if hasB ks x.kind = true then [(n, x)] else [] | none => [])
def wk (L : List Evt) (ks : List Int) : List (Nat × Evt) := wkN L ks L.length
theorem wkN_yes {L : List Evt} {ks : List Int} {n : Nat} (hn : n < L.length) (h : hasB ks L[n].kind = true) : wkN L ks (n + 1) = wkN L ks n ++ [(n, L[n])] := by
  rw [wkN, List.getElem?_eq_getElem hn]; simp [h]
theorem wkN_no {L : List Evt} {ks : List Int} {n : Nat} (hn : n < L.length) (h : hasB ks L[n].kind = false) : wkN L ks (n + 1) = wkN L ks n := by
  rw [wkN, List.getElem?_eq_getElem hn]; simp [h]
theorem wkN_pre (L : List Evt) (ks : List Int) (n : Nat) : ∀ m, wkN L ks n <+: wkN L ks (n + m)
  | 0 => List.prefix_refl _
  | m + 1 => (wkN_pre L ks n m).trans (by rw [← Nat.add_assoc, wkN]; exact List.prefix_append _ _)
theorem wkN_wk {L : List Evt} {ks : List Int} {n : Nat} (h : n ≤ L.length) : wkN L ks n <+: wk L ks := by
  obtain ⟨m, hm⟩ : ∃ m, L.length = n + m := ⟨L.length - n, by omega⟩
  unfold wk; rw [hm]; exact wkN_pre L ks n m
theorem hasB_eq (ks : List Int) (k : Int) : hasB ks k = (decide (ks.length = 0) || ks.contains k) := by
  unfold hasB
  cases ks <;> simp
abbrev oEnc (x : Nat × Evt) : Array Value := #[.int .i64 (x.1 : Int), evV x.2]
/-- what the iterator reads -/
def OT (B1 B2 : Nat) (lv kv : Value) (nl nk : Nat) : Sq.Blocks := fun k => k = B1 ∨ k = B2 ∨ (0 < nl ∧ lv.ownBlock = some k) ∨ (0 < nk ∧ kv.ownBlock = some k)

set_option maxRecDepth 100000 in
set_option maxHeartbeats 4000000 in
theorem of1_seq (n : Nat) (hn : 1 ≤ n) (L : List Evt) (ks : List Int) (lv kv : Value) (B1 B2 : Nat) (w : World) (hb1 : Boxed w B1 22 lv) (hb2 : Boxed w B2 31 kv) (hE : Evs w.heap.size w lv L) (hK : Fi.Ints w.heap.size w kv ks) (hL : L.length ≤ 1048576) (hks : ks.length ≤ 1048576) :
    Sq.SeqC Fence.wide n Try.prog 30 #[.pointer (some ⟨B1, 0, none⟩), .pointer (some ⟨B2, 0, none⟩)] oEnc (OT B1 B2 lv kv L.length ks.length) (fun ys => ys = wk L ks) (fun pre => pre <+: wk L ks) w := by
  intro lp J Jx W hW hJ hJx hY h0
  have HB1 := Lib.hid (hW.boxed (.inl rfl) hb1)
  have HB2 := Lib.hid (hW.boxed (.inr (.inl rfl)) hb2)
  obtain ⟨a, cap, fb, fo, rfl, ha, hc⟩ := hE
  obtain ⟨a2, cap2, kb, ko, rfl, ha2, hc2⟩ := hK
  have HTA := Lib.hid (fun (h : 0 < L.length) => show OT B1 B2 (.slice a L.length cap) (.slice a2 ks.length cap2) L.length ks.length fb ∧ a = some ⟨fb, fo, none⟩ ∧ fb < W.heap.size from by
    obtain ⟨h1, h2⟩ := ha h
    exact ⟨.inr (.inr (.inl ⟨h, by rw [h1]; rfl⟩)), h1, Nat.lt_of_lt_of_le h2 hW.size⟩)
  have HLC := Lib.hid (fun X (hX : Sq.Kept (OT B1 B2 (.slice a L.length cap) (.slice a2 ks.length cap2) L.length ks.length) W X) j (hj : j < L.length) => show AtE X fb (fo + j * 9) L[j] from fun m hm => by
    have h := hc j hj m hm
    have hT := (HTA.out (by omega)).1
    cases hv : (evC L[j])[m]? with
    | none => rw [List.getElem?_eq_none_iff] at hv; simp [evC] at hv; omega
    | some v =>
      rw [hv] at h
      exact (hW.trans hX).cell (p := ⟨fb, fo + j * 9 + m, none⟩) hT h)
  have HKC := Lib.hid (fun X (hX : Sq.Kept (OT B1 B2 (.slice a L.length cap) (.slice a2 ks.length cap2) L.length ks.length) W X) => show Fi.Ints X.heap.size X (.slice a2 ks.length cap2) ks from
    ⟨a2, cap2, kb, ko, rfl, fun h => ⟨(ha2 h).1, Nat.lt_of_lt_of_le (ha2 h).2 (Nat.le_trans hW.size hX.size)⟩, fun j hj => (hW.trans hX).cell (p := ⟨kb, ko + j, none⟩) (.inr (.inr (.inr ⟨by omega, by rw [(ha2 (by omega)).1]; rfl⟩))) (hc2 j hj)⟩)
  clear ha hc ha2 hc2
  generalize hT : OT B1 B2 (.slice a L.length cap) (.slice a2 ks.length cap2) L.length ks.length = T at *
  have hT1 : T B1 := by rw [← hT]; exact .inl rfl
  have hT2 : T B2 := by rw [← hT]; exact .inr (.inl rfl)
  clear hT hW hb1 hb2
  have HFN : Fence.wide.fn 31 := trivial
  have b1 := HB1.out.cell
  have bl1 := HB1.out.lt
  refine callsIn_of_wp Try.func30 rfl trivial ?_ rfl
  simp only [Try.ntmps30, List.size_toArray, List.length_cons, List.length_nil, Nat.reduceAdd, Nat.reduceSub, Array.replicate_succ, Array.replicate_zero, List.push_toArray, List.append_toArray, List.nil_append, List.cons_append]
  gi_wp2
  gi_loopw [8] (fun iv wr => ∃ q : Nat, q ≤ L.length ∧ iv = .int .i64 (q : Int) ∧ J (fun _ => False) (wkN L ks q) wr ∧ Sq.Kept T W wr) (fun i _ => L.length - (intOf i).toNat)
  case atStart => exact ⟨0, Nat.zero_le _, rfl, h0, Sq.Kept.refl _ _⟩
  case round =>
    obtain ⟨q, hq, rfl, hJs, hk⟩ := hrel
    obtain ⟨wo, rfl⟩ : ∃ wo : World, wo = wr := ⟨_, rfl⟩
    have hks2 := hk.size
    by_cases hlt : q < L.length
    · obtain ⟨_, rfl, hfl⟩ := HTA.out (by omega)
      have hAT := HLC.out wo hk q hlt
      have hi1 : (0 : Int) ≤ (q : Int) ∧ (q : Int) < (L.length : Int) := by omega
      have hwb : fb < wo.heap.size := by omega
      have e0 := hAT 0 (by decide)
      have e1 := hAT 1 (by decide)
      have e2 := hAT 2 (by decide)
      have e3 := hAT 3 (by decide)
      have e4 := hAT 4 (by decide)
      have e5 := hAT 5 (by decide)
      have e6 := hAT 6 (by decide)
      have e7 := hAT 7 (by decide)
      have e8 := hAT 8 (by decide)
      have HYES := Lib.hid (fun h => wkN_yes (ks := ks) hlt h)
      have HNO := Lib.hid (fun h => wkN_no (ks := ks) hlt h)
      have HPRE := Lib.hid (wkN_wk (L := L) (ks := ks) (n := q + 1) (by omega))
      have hhas := hasB_eq ks L[q].kind
      clear hAT HLC
      generalize L[q] = x at *
      generalize wkN L ks q = pre at *
      generalize hp2 : wkN L ks (q + 1) = pre2 at *
      obtain ⟨xi, xt, xk, xa, xb, xc, xd, xe, xf⟩ := x
      unfold evC at e0 e1 e2 e3 e4 e5 e6 e7 e8
      simp only [List.getElem?_cons_zero, List.getElem?_cons_succ, Nat.add_zero] at e0 e1 e2 e3 e4 e5 e6 e7 e8
      simp only at HYES HNO hhas
      obtain ⟨wx, hwx⟩ : ∃ wx, wo.alloc (.cells #[.int .i64 xi, .int .i64 xt, .int .i64 xk, .int .i64 xa, .int .i64 xb, .int .i64 xc, .int .i64 xd, .int .i64 xe, .int .i64 xf] 41) = wx := ⟨_, rfl⟩
      have oX := Ob.Obj.new wo 41 [.int .i64 xi, .int .i64 xt, .int .i64 xk, .int .i64 xa, .int .i64 xb, .int .i64 xc, .int .i64 xd, .int .i64 xe, .int .i64 xf]
      rw [show wo.alloc (.cells ([.int .i64 xi, .int .i64 xt, .int .i64 xk, .int .i64 xa, .int .i64 xb, .int .i64 xc, .int .i64 xd, .int .i64 xe, .int .i64 xf] : List Value).toArray 41) = wx from hwx] at oX
      have hJ2 := Lib.hid (show J (fun _ => False) pre wx by rw [← hwx]; exact hJ _ _ _ _ _ hJs (Sq.Step.alloc0 _ _ _))
      have hk2 : Sq.Kept T W wx := by rw [← hwx]; exact hk.trans (Sq.Kept.alloc _ _ _)
      have x0 := oX.cell 0
      have x1 := oX.cell 1
      have x2 := oX.cell 2
      have x3 := oX.cell 3
      have x4 := oX.cell 4
      have x5 := oX.cell 5
      have x6 := oX.cell 6
      have x7 := oX.cell 7
      have x8 := oX.cell 8
      simp at x0 x1 x2 x3 x4 x5 x6 x7 x8
      have hxl := oX.lt
      have b2 := (hk2.boxed hT2 HB2.out).cell
      have bl2 := (hk2.boxed hT2 HB2.out).lt
      have HCT := Lib.hid (containsI_any (.slice a2 ks.length cap2) ks xk wx (HKC.out wx hk2) (by omega))
      have HK2 := Lib.hid hk2
      clear oX hJs hk hk2 HKC
      by_cases hk0 : ks.length = 0
      · have hkb : (((ks.length : Nat) : Int) == 0) = true := by simp [hk0]
        have hy1 : hasB ks xk = true := by rw [hhas]; simp [hk0]
        obtain rfl := HYES.out hy1
        clear hhas HYES HNO hy1 HCT
        obtain ⟨fn, tmps, assign, body, hy, hR⟩ := hY (fun _ => False) pre (q, ⟨xi, xt, xk, xa, xb, xc, xd, xe, xf⟩) wx hJ2.out (fun k h => h.elim) HPRE.out
        have HRR := Lib.hid hR
        clear hR hk0
        simp only [oEnc, evV] at hy
        gi_wp2_with (with_reducible refine ⟨HFN, ?_⟩)
        refine HRR.out.mono ?_
        rintro e W3 (⟨rfl, hJ3, hk3⟩ | ⟨rfl, hJx3, hk3⟩)
        · gi_wp2
          go_roundw
          case rel => exact ⟨q + 1, by omega, by go_num, by rw [hp2]; exact hJ3, HK2.out.trans (hk3.less (fun k hk _ => .inr hk))⟩
          case measure => simp [intOf]; omega
        · gi_wp2
          refine bodyPost_ret (results_none rfl _ _ _) rfl ?_
          exact ⟨⟨_, rfl⟩, .inr ⟨_, _, HPRE.out, hJx3⟩⟩
      · have hkb : (((ks.length : Nat) : Int) == 0) = false := beq_eq_false_iff_ne.2 (by omega)
        have hh2 : hasB ks xk = ks.contains xk := by rw [hhas, decide_eq_false hk0, Bool.false_or]
        rw [hh2] at HYES HNO
        clear hhas hh2
        generalize ks.contains xk = cb at *
        cases cb with
        | false =>
          obtain rfl := HNO.out rfl
          clear HYES HNO hk0 hY
          gi_wp2_with (gi_at_call 31; refine (callsIn_wide.2 HCT.out).mono ?_; rintro e w1 ⟨rfl, rfl⟩)
          refine ⟨fun _ h => (by cases h), ?_⟩
          gi_wp2
          go_roundw
          case rel => exact ⟨q + 1, by omega, by go_num, by rw [hp2]; exact hJ2.out, HK2.out⟩
          case measure => simp [intOf]; omega
        | true =>
          obtain rfl := HYES.out rfl
          clear HYES HNO hk0
          obtain ⟨fn, tmps, assign, body, hy, hR⟩ := hY (fun _ => False) pre (q, ⟨xi, xt, xk, xa, xb, xc, xd, xe, xf⟩) wx hJ2.out (fun k h => h.elim) HPRE.out
          have HRR := Lib.hid hR
          clear hR
          simp only [oEnc, evV] at hy
          gi_wp2_with (gi_at_call 31; refine (callsIn_wide.2 HCT.out).mono ?_; rintro e w1 ⟨rfl, rfl⟩)
          refine HRR.out.mono ?_
          rintro e W3 (⟨rfl, hJ3, hk3⟩ | ⟨rfl, hJx3, hk3⟩)
          · gi_wp2
            go_roundw
            case rel => exact ⟨q + 1, by omega, by go_num, by rw [hp2]; exact hJ3, HK2.out.trans (hk3.less (fun k hk _ => .inr hk))⟩
            case measure => simp [intOf]; omega
          · gi_wp2
            refine bodyPost_ret (results_none rfl _ _ _) rfl ?_
            exact ⟨⟨_, rfl⟩, .inr ⟨_, _, HPRE.out, hJx3⟩⟩
    · obtain rfl : q = L.length := by omega
      gi_wp2
      go_end0
      exact ⟨⟨_, rfl⟩, .inl ⟨_, _, rfl, hJs⟩⟩
end Ev
end Go.Proofs.Ytdaafledkloegaa

/-
  The program's awaits, closed, mayBeMade, about of chapter 15.
-/
namespace Go.Proofs.Ytdaafledkloegaa
open Go.RowKit
set_option linter.unusedSimpArgs false
set_option linter.unusedVariables false
namespace Gr
open Ev (Evt EvIn hasB validB command closing zero fields Evs AtE evC evV W64)

theorem W64.of {n : Int} (h : -1000 ≤ n ∧ n ≤ 1000 := by decide) : W64 n := ⟨by omega, by omega⟩
theorem about_ok {ks : List Int} (h : (ks.all fun k => decide (about k ≠ 0) && (decide (-1000 ≤ k) && decide (k ≤ 1000))) = true) : ∀ k ∈ ks, about k ≠ 0 ∧ W64 k := by
  intro k hk
  have := List.all_eq_true.1 h k hk
  simp at this
  exact ⟨this.1, by unfold W64; omega⟩

set_option maxRecDepth 100000 in
set_option maxHeartbeats 8000000 in
theorem awaits_any (a : Option Addr) (n cap mb : Nat) (L : List Evt) (x : Evt) (w : World) (hP : Past w mb L) (hL : L.length ≤ 1048576) (hx : EvIn x) :
    Calls Try.prog 20 #[.agg #[.slice a n cap, .map (some mb)], evV x] w fun e w' => e = .returned (.bool (awB L x)) ∧ Below w.heap.size w w' := by
  have HV := Lib.hid (show awB L x = (!(endsOf x.kind).isEmpty && !nmd L x.id (endsOf x.kind)) from rfl)
  have wi := hx.id
  clear hx
  obtain ⟨xi, xt, xk, xa, xb, xc, xd, xe, xf⟩ := x
  unfold evV
  simp only at HV wi ⊢
  have hA0 : Below w.heap.size w w := Below.refl _ _
  obtain ⟨wx, hwx⟩ : ∃ wx, w.alloc (.cells #[.slice a n cap, .map (some mb)] 45) = wx := ⟨_, rfl⟩
  have oX := Ob.Obj.new w 45 [.slice a n cap, .map (some mb)]
  rw [show w.alloc (.cells ([.slice a n cap, .map (some mb)] : List Value).toArray 45) = wx from hwx] at oX
  have hA1 : Below w.heap.size w wx := by rw [← hwx]; exact hA0.alloc hA0.size _
  obtain ⟨wy, hwy⟩ : ∃ wy, wx.alloc (.cells #[.int .i64 xi, .int .i64 xt, .int .i64 xk, .int .i64 xa, .int .i64 xb, .int .i64 xc, .int .i64 xd, .int .i64 xe, .int .i64 xf] 41) = wy := ⟨_, rfl⟩
  have oY := Ob.Obj.new wx 41 [.int .i64 xi, .int .i64 xt, .int .i64 xk, .int .i64 xa, .int .i64 xb, .int .i64 xc, .int .i64 xd, .int .i64 xe, .int .i64 xf]
  rw [show wx.alloc (.cells ([.int .i64 xi, .int .i64 xt, .int .i64 xk, .int .i64 xa, .int .i64 xb, .int .i64 xc, .int .i64 xd, .int .i64 xe, .int .i64 xf] : List Value).toArray 41) = wy from hwy] at oY
  have hA2 : Below w.heap.size w wy := by rw [← hwy]; exact hA1.alloc hA1.size _
  have oX2 : Ob.Obj wy w.heap.size 45 [.slice a n cap, .map (some mb)] := by rw [← hwy]; exact oX.alloc _
  have hP2 := hP.grow hA2
  clear hP oX
  by_cases hk3 : xk = 3
  · subst hk3
    have HV2 := Lib.hid (show awB L _ = !nmd L xi [6, 22, 23, 24] from by rw [HV.out]; rfl)
    clear HV
    obtain ⟨wz, hwz⟩ : ∃ wz, wy.alloc (.cells #[.int .i64 6, .int .i64 22, .int .i64 23, .int .i64 24] 3) = wz := ⟨_, rfl⟩
    have oZ := Ob.Obj.new wy 3 [.int .i64 6, .int .i64 22, .int .i64 23, .int .i64 24]
    rw [show wy.alloc (.cells ([.int .i64 6, .int .i64 22, .int .i64 23, .int .i64 24] : List Value).toArray 3) = wz from hwz] at oZ
    have hA3 : Below w.heap.size w wz := by rw [← hwz]; exact hA2.alloc hA2.size _
    have HF := Lib.hid (free_any (B := 0) a n cap mb L xi (.slice (some ⟨wy.heap.size, 0, none⟩) 4 4) [6, 22, 23, 24] wz (hP2.below (by rw [← hwz]; exact (Below.refl wy.heap.size wy).alloc (Nat.le_refl _) _) hP2.lt) hL (ints_new (ks := [6, 22, 23, 24]) oZ) (by simp) (by simp) (about_ok (by decide)) wi)
    have x0 := oX2.cell 0
    have x1 := oX2.cell 1
    have hxl := oX2.lt
    have y0 := oY.cell 0
    have y1 := oY.cell 1
    have y2 := oY.cell 2
    have y3 := oY.cell 3
    have y4 := oY.cell 4
    have y5 := oY.cell 5
    have y6 := oY.cell 6
    have y7 := oY.cell 7
    have y8 := oY.cell 8
    have hyl := oY.lt
    simp at x0 x1 y0 y1 y2 y3 y4 y5 y6 y7 y8
    have HA := Lib.hid hA3
    have hzs := hA3.size
    clear hA1 hA2 hA3 hA0 oX2 oY oZ hP2 hL
    generalize nmd L xi [6, 22, 23, 24] = nb at *
    go_enter Try.func20, Try.ntmps20
    go_wp2_with (go_at_call 32; (with_reducible refine HF.out.mono ?_); rintro e w5 ⟨rfl, hb5⟩; have hB5 := HA.out.trans (hb5.mono hzs))
    go_ret
    exact ⟨by rw [HV2.out]; rfl, hB5⟩
  by_cases hk4 : xk = 4
  · subst hk4
    have HV2 := Lib.hid (show awB L _ = !nmd L xi [7, 25] from by rw [HV.out]; rfl)
    clear HV
    obtain ⟨wz, hwz⟩ : ∃ wz, wy.alloc (.cells #[.int .i64 7, .int .i64 25] 3) = wz := ⟨_, rfl⟩
    have oZ := Ob.Obj.new wy 3 [.int .i64 7, .int .i64 25]
    rw [show wy.alloc (.cells ([.int .i64 7, .int .i64 25] : List Value).toArray 3) = wz from hwz] at oZ
    have hA3 : Below w.heap.size w wz := by rw [← hwz]; exact hA2.alloc hA2.size _
    have HF := Lib.hid (free_any (B := 0) a n cap mb L xi (.slice (some ⟨wy.heap.size, 0, none⟩) 2 2) [7, 25] wz (hP2.below (by rw [← hwz]; exact (Below.refl wy.heap.size wy).alloc (Nat.le_refl _) _) hP2.lt) hL (ints_new (ks := [7, 25]) oZ) (by simp) (by simp) (about_ok (by decide)) wi)
    have x0 := oX2.cell 0
    have x1 := oX2.cell 1
    have hxl := oX2.lt
    have y0 := oY.cell 0
    have y1 := oY.cell 1
    have y2 := oY.cell 2
    have y3 := oY.cell 3
    have y4 := oY.cell 4
    have y5 := oY.cell 5
    have y6 := oY.cell 6
    have y7 := oY.cell 7
    have y8 := oY.cell 8
    have hyl := oY.lt
    simp at x0 x1 y0 y1 y2 y3 y4 y5 y6 y7 y8
    have HA := Lib.hid hA3
    have hzs := hA3.size
    clear hA1 hA2 hA3 hA0 oX2 oY oZ hP2 hL
    generalize nmd L xi [7, 25] = nb at *
    go_enter Try.func20, Try.ntmps20
    go_wp2_with (go_at_call 32; (with_reducible refine HF.out.mono ?_); rintro e w5 ⟨rfl, hb5⟩; have hB5 := HA.out.trans (hb5.mono hzs))
    go_ret
    exact ⟨by rw [HV2.out]; rfl, hB5⟩
  by_cases hk5 : xk = 5
  · subst hk5
    have HV2 := Lib.hid (show awB L _ = !nmd L xi [27, 28] from by rw [HV.out]; rfl)
    clear HV
    obtain ⟨wz, hwz⟩ : ∃ wz, wy.alloc (.cells #[.int .i64 27, .int .i64 28] 3) = wz := ⟨_, rfl⟩
    have oZ := Ob.Obj.new wy 3 [.int .i64 27, .int .i64 28]
    rw [show wy.alloc (.cells ([.int .i64 27, .int .i64 28] : List Value).toArray 3) = wz from hwz] at oZ
    have hA3 : Below w.heap.size w wz := by rw [← hwz]; exact hA2.alloc hA2.size _
    have HF := Lib.hid (free_any (B := 0) a n cap mb L xi (.slice (some ⟨wy.heap.size, 0, none⟩) 2 2) [27, 28] wz (hP2.below (by rw [← hwz]; exact (Below.refl wy.heap.size wy).alloc (Nat.le_refl _) _) hP2.lt) hL (ints_new (ks := [27, 28]) oZ) (by simp) (by simp) (about_ok (by decide)) wi)
    have x0 := oX2.cell 0
    have x1 := oX2.cell 1
    have hxl := oX2.lt
    have y0 := oY.cell 0
    have y1 := oY.cell 1
    have y2 := oY.cell 2
    have y3 := oY.cell 3
    have y4 := oY.cell 4
    have y5 := oY.cell 5
    have y6 := oY.cell 6
    have y7 := oY.cell 7
    have y8 := oY.cell 8
    have hyl := oY.lt
    simp at x0 x1 y0 y1 y2 y3 y4 y5 y6 y7 y8
    have HA := Lib.hid hA3
    have hzs := hA3.size
    clear hA1 hA2 hA3 hA0 oX2 oY oZ hP2 hL
    generalize nmd L xi [27, 28] = nb at *
    go_enter Try.func20, Try.ntmps20
    go_wp2_with (go_at_call 32; (with_reducible refine HF.out.mono ?_); rintro e w5 ⟨rfl, hb5⟩; have hB5 := HA.out.trans (hb5.mono hzs))
    go_ret
    exact ⟨by rw [HV2.out]; rfl, hB5⟩
  by_cases hk21 : xk = 21
  · subst hk21
    have HV2 := Lib.hid (show awB L _ = !nmd L xi [13, 14] from by rw [HV.out]; rfl)
    clear HV
    obtain ⟨wz, hwz⟩ : ∃ wz, wy.alloc (.cells #[.int .i64 13, .int .i64 14] 3) = wz := ⟨_, rfl⟩
    have oZ := Ob.Obj.new wy 3 [.int .i64 13, .int .i64 14]
    rw [show wy.alloc (.cells ([.int .i64 13, .int .i64 14] : List Value).toArray 3) = wz from hwz] at oZ
    have hA3 : Below w.heap.size w wz := by rw [← hwz]; exact hA2.alloc hA2.size _
    have HF := Lib.hid (free_any (B := 0) a n cap mb L xi (.slice (some ⟨wy.heap.size, 0, none⟩) 2 2) [13, 14] wz (hP2.below (by rw [← hwz]; exact (Below.refl wy.heap.size wy).alloc (Nat.le_refl _) _) hP2.lt) hL (ints_new (ks := [13, 14]) oZ) (by simp) (by simp) (about_ok (by decide)) wi)
    have x0 := oX2.cell 0
    have x1 := oX2.cell 1
    have hxl := oX2.lt
    have y0 := oY.cell 0
    have y1 := oY.cell 1
    have y2 := oY.cell 2
    have y3 := oY.cell 3
    have y4 := oY.cell 4
    have y5 := oY.cell 5
    have y6 := oY.cell 6
    have y7 := oY.cell 7
    have y8 := oY.cell 8
    have hyl := oY.lt
    simp at x0 x1 y0 y1 y2 y3 y4 y5 y6 y7 y8
    have HA := Lib.hid hA3
    have hzs := hA3.size
    clear hA1 hA2 hA3 hA0 oX2 oY oZ hP2 hL
    generalize nmd L xi [13, 14] = nb at *
    go_enter Try.func20, Try.ntmps20
    go_wp2_with (go_at_call 32; (with_reducible refine HF.out.mono ?_); rintro e w5 ⟨rfl, hb5⟩; have hB5 := HA.out.trans (hb5.mono hzs))
    go_ret
    exact ⟨by rw [HV2.out]; rfl, hB5⟩
  have HV2 := Lib.hid (show awB L _ = false from by rw [HV.out]; simp [endsOf, hk3, hk4, hk5, hk21])
  have q3 : (xk == 3) = false := by simpa using hk3
  have q4 : (xk == 4) = false := by simpa using hk4
  have q5 : (xk == 5) = false := by simpa using hk5
  have q21 : (xk == 21) = false := by simpa using hk21
  have x0 := oX2.cell 0
  have x1 := oX2.cell 1
  have hxl := oX2.lt
  have y0 := oY.cell 0
  have y1 := oY.cell 1
  have y2 := oY.cell 2
  have y3 := oY.cell 3
  have y4 := oY.cell 4
  have y5 := oY.cell 5
  have y6 := oY.cell 6
  have y7 := oY.cell 7
  have y8 := oY.cell 8
  have hyl := oY.lt
  simp at x0 x1 y0 y1 y2 y3 y4 y5 y6 y7 y8
  have HA := Lib.hid hA2
  clear HV hA1 hA2 hA0 oX2 oY hP2 hL hk3 hk4 hk5 hk21
  go_enter Try.func20, Try.ntmps20
  go_wp2_with fail
  go_ret
  exact ⟨by rw [HV2.out]; rfl, HA.out⟩

set_option maxRecDepth 100000 in
set_option maxHeartbeats 16000000 in
theorem about_any (k : Int) (w : World) :
    Calls Try.prog 25 #[.int .i64 k] w fun e w' => e = .returned (.int .i64 (about k)) ∧ w = w' := by
  by_cases h : 1 ≤ k ∧ k ≤ 31
  · replace h : k = 1 ∨ k = 2 ∨ k = 3 ∨ k = 4 ∨ k = 5 ∨ k = 6 ∨ k = 7 ∨ k = 8 ∨ k = 9 ∨ k = 10 ∨ k = 11 ∨ k = 12 ∨ k = 13 ∨ k = 14 ∨ k = 15 ∨ k = 16 ∨ k = 17 ∨ k = 18 ∨ k = 19 ∨ k = 20 ∨ k = 21 ∨ k = 22 ∨ k = 23 ∨ k = 24 ∨ k = 25 ∨ k = 26 ∨ k = 27 ∨ k = 28 ∨ k = 29 ∨ k = 30 ∨ k = 31 := by omega
    rcases h with rfl | rfl | rfl | rfl | rfl | rfl | rfl | rfl | rfl | rfl | rfl | rfl | rfl | rfl | rfl | rfl | rfl | rfl | rfl | rfl | rfl | rfl | rfl | rfl | rfl | rfl | rfl | rfl | rfl | rfl | rfl
    all_goals
      go_enter Try.func25, Try.ntmps25
      go_wp2_with fail
      go_ret
      exact ⟨rfl, rfl⟩
  · have HK := Lib.hid (show about k = 0 by unfold about; rw [if_neg (by omega), if_neg (by omega), if_neg (by omega), if_neg (by omega), if_neg (by omega)])
    have q1 : (k == 1) = false := by simp; omega
    have q2 : (k == 2) = false := by simp; omega
    have q3 : (k == 3) = false := by simp; omega
    have q4 : (k == 4) = false := by simp; omega
    have q5 : (k == 5) = false := by simp; omega
    have q6 : (k == 6) = false := by simp; omega
    have q7 : (k == 7) = false := by simp; omega
    have q8 : (k == 8) = false := by simp; omega
    have q9 : (k == 9) = false := by simp; omega
    have q10 : (k == 10) = false := by simp; omega
    have q11 : (k == 11) = false := by simp; omega
    have q12 : (k == 12) = false := by simp; omega
    have q13 : (k == 13) = false := by simp; omega
    have q14 : (k == 14) = false := by simp; omega
    have q15 : (k == 15) = false := by simp; omega
    have q16 : (k == 16) = false := by simp; omega
    have q17 : (k == 17) = false := by simp; omega
    have q18 : (k == 18) = false := by simp; omega
    have q19 : (k == 19) = false := by simp; omega
    have q20 : (k == 20) = false := by simp; omega
    have q21 : (k == 21) = false := by simp; omega
    have q22 : (k == 22) = false := by simp; omega
    have q23 : (k == 23) = false := by simp; omega
    have q24 : (k == 24) = false := by simp; omega
    have q25 : (k == 25) = false := by simp; omega
    have q26 : (k == 26) = false := by simp; omega
    have q27 : (k == 27) = false := by simp; omega
    have q28 : (k == 28) = false := by simp; omega
    have q29 : (k == 29) = false := by simp; omega
    have q30 : (k == 30) = false := by simp; omega
    have q31 : (k == 31) = false := by simp; omega
    clear h
    go_enter Try.func25, Try.ntmps25
    go_wp2_with fail
    go_ret
    exact ⟨by rw [HK.out]; rfl, rfl⟩

set_option maxRecDepth 100000 in
set_option maxHeartbeats 8000000 in
theorem closed_any (v : Value) (mb : Nat) (L : List Evt) (w : World) (hE : Evs w.heap.size w v L) (hL : L.length ≤ 1048576) :
    Calls Try.prog 22 #[.agg #[v, .map (some mb)]] w fun e w' => e = .returned (.bool (clB L)) ∧ Below w.heap.size w w' := by
  have HV := Lib.hid (show clB L = (decide (0 < L.length) && closing (ev L (L.length - 1)).kind) from rfl)
  obtain ⟨a, cap, b, off, rfl, ha, hc⟩ := hE
  have hA0 : Below w.heap.size w w := Below.refl _ _
  obtain ⟨wx, hwx⟩ : ∃ wx, w.alloc (.cells #[.slice a L.length cap, .map (some mb)] 45) = wx := ⟨_, rfl⟩
  have oX := Ob.Obj.new w 45 [.slice a L.length cap, .map (some mb)]
  rw [show w.alloc (.cells ([.slice a L.length cap, .map (some mb)] : List Value).toArray 45) = wx from hwx] at oX
  have hA1 : Below w.heap.size w wx := by rw [← hwx]; exact hA0.alloc hA0.size _
  have x0 := oX.cell 0
  have x1 := oX.cell 1
  have hxl := oX.lt
  simp at x0 x1
  have HA := Lib.hid hA1
  by_cases hn : 0 < L.length
  · obtain ⟨m, hm⟩ : ∃ m, L.length = m + 1 := ⟨L.length - 1, by omega⟩
    obtain ⟨rfl, hbl⟩ := ha hn
    have e2 := (hc m (by omega)).below hA1 hbl 2 (by decide)
    rw [← ev_at (show m < L.length by omega)] at e2
    have hi1 : (0 : Int) ≤ (m : Int) ∧ (m : Int) < (m : Int) + 1 := by omega
    have hi2 : m < m + 1 := by omega
    have hw1 : IntKind.i64.wrap ((m : Int) + 1 - 1) = (m : Int) := by rw [IntKind.wrap_i64]; omega
    have hpos : decide ((0 : Int) < (m : Int) + 1) = true := decide_eq_true (by omega)
    have hpos2 : (0 : Int) < (m : Int) + 1 := by omega
    have HC := Lib.hid (fun W => Ev.closing_any (ev L m).kind W)
    have HV2 := Lib.hid (show clB L = closing (ev L m).kind from by rw [HV.out, hm, decide_eq_true (by omega)]; rfl)
    clear HV ha hc hA0 hA1 oX
    generalize ev L m = x at *
    generalize hll : L.length = ll at *
    subst hm
    obtain ⟨xi, xt, xk, xa, xb, xc, xd, xe, xf⟩ := x
    unfold evC at e2
    simp only [List.getElem?_cons_zero, List.getElem?_cons_succ, Nat.add_zero] at e2
    simp only at HC HV2
    generalize closing xk = cb at *
    go_enter Try.func22, Try.ntmps22
    go_wp2_with (go_at_call 34; (with_reducible refine (HC.out _).mono ?_); rintro e w5 ⟨rfl, rfl⟩)
    all_goals go_ret
    all_goals exact ⟨by rw [HV2.out]; rfl, HA.out⟩
  · have h0 : L.length = 0 := by omega
    have HV2 := Lib.hid (show clB L = false from by rw [HV.out, h0]; rfl)
    clear HV ha hc hA0 hA1 oX
    generalize L.length = ll at *
    subst h0
    go_enter Try.func22, Try.ntmps22
    go_wp2_with fail
    all_goals go_ret
    all_goals exact ⟨by rw [HV2.out]; rfl, HA.out⟩

set_option maxRecDepth 100000 in
set_option maxHeartbeats 8000000 in
theorem made_any (v : Value) (mb : Nat) (L : List Evt) (x : Evt) (w : World) (hE : Evs w.heap.size w v L) (hL : L.length ≤ 1048576) (hn : 0 < L.length) :
    Calls Try.prog 36 #[.agg #[v, .map (some mb)], evV x] w fun e w' => e = .returned (.bool (mdB L x)) ∧ Below w.heap.size w w' := by
  have HV := Lib.hid (show mdB L x = (if command x.kind = true ∧ ¬ (x.kind = 16 ∧ x.a = -4) then decide (x.time = (ev L (L.length - 1)).time) && (decide ((ev L (L.length - 1)).kind = 2) || command (ev L (L.length - 1)).kind) else true) from rfl)
  obtain ⟨a, cap, b, off, rfl, ha, hc⟩ := hE
  have hA0 : Below w.heap.size w w := Below.refl _ _
  obtain ⟨xi, xt, xk, xa, xb, xc, xd, xe, xf⟩ := x
  unfold evV
  simp only at HV ⊢
  obtain ⟨wx, hwx⟩ : ∃ wx, w.alloc (.cells #[.slice a L.length cap, .map (some mb)] 45) = wx := ⟨_, rfl⟩
  have oX := Ob.Obj.new w 45 [.slice a L.length cap, .map (some mb)]
  rw [show w.alloc (.cells ([.slice a L.length cap, .map (some mb)] : List Value).toArray 45) = wx from hwx] at oX
  have hA1 : Below w.heap.size w wx := by rw [← hwx]; exact hA0.alloc hA0.size _
  obtain ⟨wy, hwy⟩ : ∃ wy, wx.alloc (.cells #[.int .i64 xi, .int .i64 xt, .int .i64 xk, .int .i64 xa, .int .i64 xb, .int .i64 xc, .int .i64 xd, .int .i64 xe, .int .i64 xf] 41) = wy := ⟨_, rfl⟩
  have oY := Ob.Obj.new wx 41 [.int .i64 xi, .int .i64 xt, .int .i64 xk, .int .i64 xa, .int .i64 xb, .int .i64 xc, .int .i64 xd, .int .i64 xe, .int .i64 xf]
  rw [show wx.alloc (.cells ([.int .i64 xi, .int .i64 xt, .int .i64 xk, .int .i64 xa, .int .i64 xb, .int .i64 xc, .int .i64 xd, .int .i64 xe, .int .i64 xf] : List Value).toArray 41) = wy from hwy] at oY
  have hA2 : Below w.heap.size w wy := by rw [← hwy]; exact hA1.alloc hA1.size _
  have oX2 : Ob.Obj wy w.heap.size 45 [.slice a L.length cap, .map (some mb)] := by rw [← hwy]; exact oX.alloc _
  obtain ⟨m, hm⟩ : ∃ m, L.length = m + 1 := ⟨L.length - 1, by omega⟩
  obtain ⟨rfl, hbl⟩ := ha hn
  have eA := (hc m (by omega)).below hA2 hbl
  rw [← ev_at (show m < L.length by omega)] at eA
  have e0 := eA 0 (by decide)
  have e1 := eA 1 (by decide)
  have e2 := eA 2 (by decide)
  have e3 := eA 3 (by decide)
  have e4 := eA 4 (by decide)
  have e5 := eA 5 (by decide)
  have e6 := eA 6 (by decide)
  have e7 := eA 7 (by decide)
  have e8 := eA 8 (by decide)
  have hi1 : (0 : Int) ≤ (m : Int) ∧ (m : Int) < (m : Int) + 1 := by omega
  have hi2 : m < m + 1 := by omega
  have hw1 : IntKind.i64.wrap ((m : Int) + 1 - 1) = (m : Int) := by rw [IntKind.wrap_i64]; omega
  have hL1 : ev L (L.length - 1) = ev L m := by rw [hm]; rfl
  rw [hL1] at HV
  have HC1 := Lib.hid (fun W => Ev.command_any xk W)
  have HC2 := Lib.hid (fun W => Ev.command_any (ev L m).kind W)
  have x0 := oX2.cell 0
  have x1 := oX2.cell 1
  have hxl := oX2.lt
  have y0 := oY.cell 0
  have y1 := oY.cell 1
  have y2 := oY.cell 2
  have y3 := oY.cell 3
  have y4 := oY.cell 4
  have y5 := oY.cell 5
  have y6 := oY.cell 6
  have y7 := oY.cell 7
  have y8 := oY.cell 8
  have hyl := oY.lt
  have hys := hA2.size
  simp at x0 x1 y0 y1 y2 y3 y4 y5 y6 y7 y8
  clear eA ha hc hA0 hA1 oX oX2 hL1
  generalize ev L m = yy at *
  generalize hll : L.length = ll at *
  subst hm
  obtain ⟨zi, zt, zk, za, zb, zc, zd, ze, zf⟩ := yy
  unfold evC at e0 e1 e2 e3 e4 e5 e6 e7 e8
  simp only [List.getElem?_cons_zero, List.getElem?_cons_succ, Nat.add_zero] at e0 e1 e2 e3 e4 e5 e6 e7 e8
  simp only at HV HC1 HC2
  obtain ⟨wz, hwz⟩ : ∃ wz, wy.alloc (.cells #[.int .i64 zi, .int .i64 zt, .int .i64 zk, .int .i64 za, .int .i64 zb, .int .i64 zc, .int .i64 zd, .int .i64 ze, .int .i64 zf] 41) = wz := ⟨_, rfl⟩
  have oZ := Ob.Obj.new wy 41 [.int .i64 zi, .int .i64 zt, .int .i64 zk, .int .i64 za, .int .i64 zb, .int .i64 zc, .int .i64 zd, .int .i64 ze, .int .i64 zf]
  rw [show wy.alloc (.cells ([.int .i64 zi, .int .i64 zt, .int .i64 zk, .int .i64 za, .int .i64 zb, .int .i64 zc, .int .i64 zd, .int .i64 ze, .int .i64 zf] : List Value).toArray 41) = wz from hwz] at oZ
  have hA3 : Below w.heap.size w wz := by rw [← hwz]; exact hA2.alloc hA2.size _
  have oY2 : Ob.Obj wz wx.heap.size 41 [.int .i64 xi, .int .i64 xt, .int .i64 xk, .int .i64 xa, .int .i64 xb, .int .i64 xc, .int .i64 xd, .int .i64 xe, .int .i64 xf] := by rw [← hwz]; exact oY.alloc _
  have u0 := oY2.cell 0
  have u1 := oY2.cell 1
  have u2 := oY2.cell 2
  have u3 := oY2.cell 3
  have u4 := oY2.cell 4
  have u5 := oY2.cell 5
  have u6 := oY2.cell 6
  have u7 := oY2.cell 7
  have u8 := oY2.cell 8
  have z0 := oZ.cell 0
  have z1 := oZ.cell 1
  have z2 := oZ.cell 2
  have z3 := oZ.cell 3
  have z4 := oZ.cell 4
  have z5 := oZ.cell 5
  have z6 := oZ.cell 6
  have z7 := oZ.cell 7
  have z8 := oZ.cell 8
  have hul := oY2.lt
  have hzl := oZ.lt
  simp at u0 u1 u2 u3 u4 u5 u6 u7 u8 z0 z1 z2 z3 z4 z5 z6 z7 z8
  have HA := Lib.hid hA2
  have HA3 := Lib.hid hA3
  clear hA2 hA3 oY oY2 oZ
  by_cases hfull : xk = 16 ∧ xa = -4
  · obtain ⟨rfl, rfl⟩ := hfull
    have HV2 := Lib.hid (show mdB L _ = true from by rw [HV.out]; simp)
    clear HV HC1 HC2
    go_enter Try.func36, Try.ntmps36
    go_wp2_with fail
    all_goals go_ret
    all_goals exact ⟨by rw [HV2.out]; rfl, HA.out⟩
  · cases hcm : command xk with
    | false =>
      rw [hcm] at HC1 HV
      have HV2 := Lib.hid (show mdB L _ = true from by rw [HV.out]; simp)
      clear HV HC2 hcm
      by_cases h16 : xk = 16
      · subst h16
        have q4 : (xa == -4) = false := by simpa using fun h => hfull ⟨rfl, h⟩
        clear hfull
        go_enter Try.func36, Try.ntmps36
        go_wp2_with (go_at_call 48; (with_reducible refine (HC1.out _).mono ?_); rintro e w5 ⟨rfl, rfl⟩)
        all_goals go_ret
        all_goals exact ⟨by rw [HV2.out]; rfl, HA.out⟩
      · have q4 : (xk == 16) = false := by simpa using h16
        clear hfull h16
        go_enter Try.func36, Try.ntmps36
        go_wp2_with (go_at_call 48; (with_reducible refine (HC1.out _).mono ?_); rintro e w5 ⟨rfl, rfl⟩)
        all_goals go_ret
        all_goals exact ⟨by rw [HV2.out]; rfl, HA.out⟩
    | true =>
      rw [hcm] at HC1
      have HV1 := Lib.hid (show mdB L _ = (decide (xt = zt) && (decide (zk = 2) || command zk)) from by rw [HV.out, if_pos ⟨hcm, hfull⟩])
      clear HV hcm
      have key : ∀ P : Prop, ((xk == 16) = false → P) → ((xk == 16) = true → (xa == -4) = false → P) → P := fun P h1 h2 => by
        by_cases h : xk = 16
        · exact h2 (by simp [h]) (by simpa using fun h3 => hfull ⟨h, h3⟩)
        · exact h1 (by simpa using h)
      clear hfull
      by_cases ht : xt = zt
      · subst ht
        by_cases h2 : zk = 2
        · subst h2
          have HV2 := Lib.hid (show mdB L _ = true from by rw [HV1.out]; simp)
          clear HV1 HC2
          apply key
          all_goals intros
          all_goals go_enter Try.func36, Try.ntmps36
          all_goals go_wp2_with (go_at_call 48; (with_reducible refine (HC1.out _).mono ?_); rintro e w5 ⟨rfl, rfl⟩)
          all_goals go_ret
          all_goals exact ⟨by rw [HV2.out]; rfl, HA3.out⟩
        · have q2 : (zk == 2) = false := by simpa using h2
          have HV2 := Lib.hid (show mdB L _ = command zk from by rw [HV1.out]; simp [h2])
          clear HV1 h2
          generalize command zk = cz at *
          have tk := trivial
          apply key
          all_goals intros
          all_goals go_enter Try.func36, Try.ntmps36
          all_goals go_wp2_with (first | (go_at_call 48; have _t := tk; clear _t tk; (with_reducible refine (HC1.out _).mono ?_); rintro e w5 ⟨rfl, rfl⟩) | (go_at_call 48; (with_reducible refine (HC2.out _).mono ?_); rintro e w6 ⟨rfl, rfl⟩))
          all_goals go_ret
          all_goals exact ⟨by rw [HV2.out]; rfl, HA3.out⟩
      · have qt : (xt == zt) = false := by simpa using ht
        have HV2 := Lib.hid (show mdB L _ = false from by rw [HV1.out]; simp [ht])
        clear HV1 ht HC2
        apply key
        all_goals intros
        all_goals go_enter Try.func36, Try.ntmps36
        all_goals go_wp2_with (go_at_call 48; (with_reducible refine (HC1.out _).mono ?_); rintro e w5 ⟨rfl, rfl⟩)
        all_goals go_ret
        all_goals exact ⟨by rw [HV2.out]; rfl, HA3.out⟩

end Gr
end Go.Proofs.Ytdaafledkloegaa
